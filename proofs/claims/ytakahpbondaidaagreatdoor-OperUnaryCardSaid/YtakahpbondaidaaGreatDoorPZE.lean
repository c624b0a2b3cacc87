/- Contracts of the statements' own lists: copies, lists held against one another. Contract: Number, of any units. -/
import Derived.IntWalk
import Derived.Test.YtakahpbondaidaaGreatDoorPZD
import Derived.Test.YtakahpbondaidaaGreatDoorPZB
import Derived.Test.YtakahpbondaidaaGreatDoorPZC
namespace Go.Proofs.YtakahpbondaidaaGreatDoor
open Go.RowKit


def EqRel5 (xs ys : List Nat) (s13 : Value) : Prop := ∃ k : Nat, k ≤ xs.length ∧ s13 = .int .i64 k ∧ xs.take k = ys.take k
set_option maxRecDepth 100000 in
set_option maxHeartbeats 1000000 in
theorem refUnits_c (A C : Option Addr) (xs ys : List Nat) (n c m d : Nat) (w : World) (ha : Ar .u16 65536 w A xs n c) (hb : Ar .u16 65536 w C ys m d) :
    Calls Tryz.prog 23 #[.slice A n c, .slice C m d] w fun e w' => e = .returned (.bool (decide (xs = ys))) ∧ Plus w w' := by
  obtain ⟨hrd, hlen, hcap, hmax, hbd⟩ := ha
  obtain ⟨krd, klen, kcap, kmax, kbd⟩ := hb
  subst hlen klen
  by_cases hl : xs.length = ys.length
  · have b1 : ((xs.length : Int) != (ys.length : Int)) = false := by simp [hl]
    have HL := Lib.hid hl
    clear hl
    go_enter Tryz.func23, Tryz.ntmps23
    go_wp2
    go_loopw [5] (fun s13 wr => EqRel5 xs ys s13 ∧ Plus w wr) (fun s13 _ => ((xs.length : Int) - intOf s13).toNat)
    case atStart => exact ⟨⟨0, by omega, rfl, rfl⟩, Plus.refl _⟩
    case round =>
      obtain ⟨⟨k, hk, rfl, he⟩, hp⟩ := hrel
      by_cases hlt : k < xs.length
      · obtain ⟨g, o, rfl, hg, hat⟩ := hrd.at_ hlt
        have hlt2 : k < ys.length := by rw [← HL.out]; exact hlt
        obtain ⟨g2, o2, rfl, hg2, hat2⟩ := krd.at_ hlt2
        have hcell := hat.plus hg hp k hlt
        have hcell2 := hat2.plus hg2 hp k hlt2
        have hadd := add_addr g o k
        have hadd2 := add_addr g2 o2 k
        have HE := Lib.hid he
        have HP := Lib.hid hp
        clear he hat hat2 hp
        obtain ⟨v, hv⟩ : ∃ v, xs.getD k 0 = v := ⟨_, rfl⟩
        obtain ⟨u, hu⟩ : ∃ u, ys.getD k 0 = u := ⟨_, rfl⟩
        rw [hv] at hcell
        rw [hu] at hcell2
        have HV := Lib.hid hv
        have HU := Lib.hid hu
        clear hv hu
        by_cases hvu : v = u
        · subst hvu
          have HT := Lib.hid (take_ext HE.out hlt hlt2 (by rw [HV.out, HU.out]))
          go_wp2_with fail
          go_quiet (fail)
          go_wp2_with fail
          go_roundw
          case rel => exact ⟨⟨k + 1, hlt, by rw [show ((k + 1 : Nat) : Int) = (k : Int) + 1 by omega], HT.out⟩, HP.out.drewN _⟩
          case measure => simp [intOf]; omega
        · have b2 : ((v : Int) != (u : Int)) = true := by simp; omega
          have HN : Hid (decide (xs = ys) = false) := Lib.hid (by simp; intro e; subst e; exact hvu (HV.out.symm.trans HU.out))
          go_wp2_with fail
          go_quiet (fail)
          go_wp2_with fail
          go_ret
          exact ⟨by rw [HN.out]; rfl, HP.out.drewN _⟩
      · obtain rfl : k = xs.length := by omega
        have HR : Hid (decide (xs = ys) = true) := Lib.hid (by
          rw [List.take_length, HL.out, List.take_length] at he
          simpa using he)
        have HP := Lib.hid hp
        clear he hp
        go_wp2_with fail
        go_ret
        exact ⟨by rw [HR.out]; rfl, HP.out⟩
  · have b1 : ((xs.length : Int) != (ys.length : Int)) = true := by simp; omega
    have HN : Hid (decide (xs = ys) = false) := Lib.hid (by simp; intro e; subst e; exact hl rfl)
    go_enter Tryz.func23, Tryz.ntmps23
    go_wp2
    go_ret
    exact ⟨by rw [HN.out]; rfl, Plus.refl _⟩

end Go.Proofs.YtakahpbondaidaaGreatDoor

namespace Go.Proofs.YtakahpbondaidaaGreatDoor
open Go.RowKit


/-- The number of a text without its outer blanks. -/
def numT (T : List UInt8) : Ans :=
  if T = [] then ⟨0, 0, true⟩
  else if unsT T = infS then ⟨if Lib.hasPrefix T [45] then 4 else 3, 0, true⟩
  else if unsT T ≠ [] ∧ Lib.trimS (unsT T) digS = [] then ⟨sgnK (Lib.hasPrefix T [45]) (parS (wzT (unsT T))).k (parS (wzT (unsT T))).n, sgnN (Lib.hasPrefix T [45]) (parS (wzT (unsT T))).k (parS (wzT (unsT T))).n, (parS (wzT (unsT T))).ok⟩
  else ⟨2, 0, !(Lib.containsAny T digS && decide (Lib.trimS T numS = []))⟩
/-- The number of units. -/
def numU (xs : List Nat) : Ans := if low xs then numT (Lib.trimS ((xs.map Nat.toUInt8)) blankS) else ⟨2, 0, true⟩
theorem trimL_sub (l c : List UInt8) : (Lib.trimLeftS l c).Sublist l := List.dropWhile_sublist _
theorem trimR_sub (l c : List UInt8) : (Lib.trimRightS l c).Sublist l := by
  unfold Lib.trimRightS
  have := (List.dropWhile_sublist (fun x => c.contains x) (l := l.reverse)).reverse
  rw [List.reverse_reverse] at this
  exact this
theorem trim_sub (l c : List UInt8) : (Lib.trimS l c).Sublist l := (trimL_sub _ _).trans (trimR_sub _ _)
theorem uns_sub (l : List UInt8) : (unsT l).Sublist l := by
  have h : ∀ p, (Lib.trimPrefix l p).Sublist l := fun p => by
    unfold Lib.trimPrefix
    split
    · exact List.drop_sublist _ _
    · exact List.Sublist.refl _
  unfold unsT
  split
  · exact h _
  · exact h _
theorem wz_len (l : List UInt8) : (wzT l).length ≤ l.length + 1 := by
  unfold wzT
  have := (trimL_sub l [48]).length_le
  split
  · simp
  · omega
theorem low_asc {xs : List Nat} (h : low xs = true) : asc (xs.map Nat.toUInt8) := fun x hx => by
  obtain ⟨y, hy, rfl⟩ := List.mem_map.1 hx
  unfold low at h
  have h2 := List.all_eq_true.1 h y hy
  simp at h2
  rw [toNat_u8 (by omega)]
  exact h2
theorem number_c (A : Option Addr) (xs : List Nat) (n c : Nat) (w : World) (hL : Lai w) (h : Ar .u16 65536 w A xs n c) (hs : n ≤ 1000000) :
    Calls Tryz.prog 96 #[.slice A n c] w fun e w' => e = .returned (.tuple #[.agg #[.int .i64 (numU xs).k, .int .i64 (numU xs).n], .bool (numU xs).ok]) ∧ Plus w w' := by
  unfold numU
  cases hl : low xs
  · exact number_low A xs n c w (Lib.hid h) (by omega) (Lib.hid hl)
  · have hn := h.len
    have hd : (plS xs).data.toList = xs.map Nat.toUInt8 := by unfold plS; rw [if_pos hl]; rfl
    have hz : (plS xs).size ≤ 1048576 := by unfold plS; rw [if_pos hl, byts_size]; omega
    have ht := trim_sub (xs.map Nat.toUInt8) blankS
    have htl := ht.length_le
    rw [List.length_map] at htl
    have hta : asc (Lib.trimS (xs.map Nat.toUInt8) blankS) := fun x hx => low_asc hl x (ht.subset hx)
    have hT : Lib.trimS (plS xs).data.toList (⟨#[32, 9, 10, 13]⟩ : ByteArray).data.toList = Lib.trimS (xs.map Nat.toUInt8) blankS := by rw [hd]; rfl
    rw [if_pos rfl]
    generalize Lib.trimS (xs.map Nat.toUInt8) blankS = T at *
    have hu := (uns_sub T).length_le
    have hw := wz_len (unsT T)
    unfold numT
    by_cases h0 : T = []
    · rw [if_pos h0]
      exact number_nil A xs n c w (Lib.hid h) (by omega) (Lib.hid hl) (Lib.hid (hT.trans h0)) hz
    · rw [if_neg h0]
      by_cases h1 : unsT T = infS
      · rw [if_pos h1]
        exact number_inf A xs n c w (Lib.hid h) (by omega) (Lib.hid hl) T (Lib.hid hT) hz (Lib.hid h0) _ (Lib.hid rfl) _ (Lib.hid rfl) (Lib.hid h1) _ (Lib.hid rfl)
      · rw [if_neg h1]
        by_cases h2 : unsT T ≠ [] ∧ Lib.trimS (unsT T) digS = []
        · rw [if_pos h2]
          exact number_dig A xs n c w (Lib.hid hL) (Lib.hid h) (by omega) (Lib.hid hl) T (Lib.hid hT) hz (Lib.hid h0) _ (Lib.hid rfl) _ (Lib.hid rfl) (Lib.hid h1) (Lib.hid h2.1) (by omega) (Lib.hid (by simpa using h2.2))
            _ _ _ (Lib.hid rfl) (by omega) _ _ (Lib.hid rfl) (Lib.hid rfl)
        · rw [if_neg h2]
          refine number_none A xs n c w (Lib.hid h) (by omega) (Lib.hid hl) T (Lib.hid hT) hz (Lib.hid h0) _ (Lib.hid rfl) _ (Lib.hid rfl) (Lib.hid h1) (by omega) (by omega) (Lib.hid hta) (Lib.hid ?_) _ _ _ (Lib.hid rfl) (Lib.hid rfl) (Lib.hid rfl)
          by_cases h3 : unsT T = []
          · exact .inl h3
          · right
            refine ⟨h3, ?_⟩
            simp
            intro q
            exact h2 ⟨h3, q⟩
theorem refNum_c (k n l m : Int) (w : World) : Calls Tryz.prog 16 #[.agg #[.int .i64 k, .int .i64 n], .agg #[.int .i64 l, .int .i64 m]] w fun e w' => e = .returned (.bool (decide (k = l ∧ n = m))) ∧ Plus w w' := by
  by_cases h : k = l
  · by_cases h2 : n = m
    · subst h h2
      go_enter Tryz.func16, Tryz.ntmps16
      go_wp2
      go_ret
      exact ⟨by simp, (by repeat' (first | exact Plus.refl _ | refine Plus.alloc ?_ _ | refine Plus.plus ?_ _ | refine Plus.drew ?_ | refine Plus.drewN ?_ _))⟩
    · have b1 : (n == m) = false := by simpa using h2
      subst h
      have HN : Hid (decide (k = k ∧ n = m) = false) := Lib.hid (by simp [h2])
      rw [HN.out]
      go_enter Tryz.func16, Tryz.ntmps16
      go_wp2
      go_ret
      exact ⟨by first | rfl | (rw [HN.out]; rfl), (by repeat' (first | exact Plus.refl _ | refine Plus.alloc ?_ _ | refine Plus.plus ?_ _ | refine Plus.drew ?_ | refine Plus.drewN ?_ _))⟩
  · have b1 : (k == l) = false := by simpa using h
    have HN : Hid (decide (k = l ∧ n = m) = false) := Lib.hid (by simp [h])
    go_enter Tryz.func16, Tryz.ntmps16
    go_wp2
    go_ret
    exact ⟨by first | rfl | (rw [HN.out]; rfl), (by repeat' (first | exact Plus.refl _ | refine Plus.alloc ?_ _ | refine Plus.plus ?_ _ | refine Plus.drew ?_ | refine Plus.drewN ?_ _))⟩
end Go.Proofs.YtakahpbondaidaaGreatDoor
namespace Go.Proofs.YtakahpbondaidaaGreatDoor
open Go.RowKit


def AsRel (zs : List Nat) (W : World) (s1 s2 : Value) (wr : World) : Prop :=
  ∃ k : Nat, k ≤ zs.length ∧ s2 = .int .i64 k ∧ wr.ownsRow W.heap.size 87 1 s1 (zs.take k).length (vals .u16 (zs.take k)) ∧ Below W.heap.size W wr
set_option maxRecDepth 100000 in
set_option maxHeartbeats 4000000 in
theorem refAscii_h (s : ByteArray) (hs : s.size ≤ 1048576) (w : World) : Calls Tryz.prog 61 #[.string s] w fun e w' => ∃ v, e = .returned v ∧ w'.ownsRow w.heap.size 87 1 v (nats s).length (vals .u16 (nats s)) ∧ Plus w w' := by
  obtain ⟨i0, hi, hz0, hz1, hz2⟩ := info_parts infoU16
  go_enter Tryz.func61, Tryz.ntmps61
  go_wp2_with fail
  go_loopw [3, 4] (AsRel (nats s) w) (fun _ s4 _ => ((s.size : Int) - intOf s4).toNat)
  case atStart => exact ⟨0, by omega, rfl, World.ownsRow_nil _ _ _ _, Below.refl _ _⟩
  case round =>
    obtain ⟨k, hk, rfl, hown, hB⟩ := hrel
    obtain ⟨z0, rfl⟩ := Plus.of_below hB
    have HL := Lib.hid (nats_len s)
    rw [HL.out] at hk
    have HW := Lib.hid hown
    have htl : ((nats s).take k).length ≤ 1048576 := by rw [List.length_take, HL.out]; omega
    clear hown
    by_cases hlt : k < s.size
    · have HG := Lib.hid (nats_get s k hlt)
      have hb := s[k].toNat_lt
      go_wp2_with (at_builtin; refine wpList_append_own _ rfl _ _ 27 rfl w.heap.size 87 i0 (.int .u16 0) 1 2 Tryz.underlying27 hi hz0 hz1 hz2 rfl (by decide) _ _ _ rfl (own_alloc HW.out _) ⟨w.heap.size + z0.blocks.length, 0, none⟩ 1 1 [.int .u16 (s[k].toNat : Int)] rfl rfl (news_at' _ _ _ _ (by simp [size_plus])) (one_u16 [s[k].toNat]) (by unfold maxLen; omega) (by omega) (by simp [size_plus]; omega) ?_; intro v1 w1 hown1 hgr1 _; have HW2 := Lib.hid hown1; have HG2 := Lib.hid hgr1; clear hown1 hgr1)
      go_roundw
      case rel =>
        refine ⟨k + 1, by rw [HL.out]; omega, by rw [show ((k + 1 : Nat) : Int) = (k : Int) + 1 by omega], ?_, below_own HW.out HG2.out hB (by simp [size_plus])⟩
        have e : (nats s).take (k + 1) = (nats s).take k ++ [s[k].toNat] := by
          rw [List.take_add_one, List.getElem?_eq_getElem (by rw [HL.out]; exact hlt)]
          have q := HG.out
          rw [List.getD_eq_getElem?_getD, List.getElem?_eq_getElem (by rw [HL.out]; exact hlt)] at q
          simp at q
          simp [q]
        rw [e, List.length_append, vals_app]
        exact HW2.out
      case measure => simp [intOf]; omega
    · obtain rfl : k = s.size := by omega
      go_wp2_with fail
      go_returns
      refine ⟨_, rfl, ?_, Plus.of_below hB⟩
      have q := HW.out
      rw [← HL.out, List.take_length] at q
      exact q
theorem refAscii_n (s : ByteArray) (hs : s.size ≤ 1048576) (xs : List Nat) (n : Nat) (hx : Hid (nats s = xs ∧ n = xs.length)) (w : World) : Calls Tryz.prog 61 #[.string s] w fun e w' => ∃ (A : Option Addr) (c : Nat), e = .returned (.slice A n c) ∧ Ar .u16 65536 w' A xs n c ∧ Plus w w' := by
  refine (refAscii_h s hs w).mono ?_
  rintro e w' ⟨v, rfl, q, q4⟩
  obtain ⟨rfl, rfl⟩ := hx.out
  obtain ⟨A, c, rfl, q1, q2, q3⟩ := rd_of_own q
  exact ⟨A, c, rfl, ⟨q3, rfl, q1, q2, nats_U s⟩, q4⟩
end Go.Proofs.YtakahpbondaidaaGreatDoor
namespace Go.Proofs.YtakahpbondaidaaGreatDoor
open Go.RowKit

/-- A number's text. -/
def txtS (p q : Int) : List UInt8 := if p = 2 then [78, 97, 78] else if p = 3 then [73, 110, 102, 105, 110, 105, 116, 121] else if p = 4 then [45, 73, 110, 102, 105, 110, 105, 116, 121] else Lib.itoa q
def txtR (k n : Int) : List UInt8 := txtS (vk k n) (vn k n)
theorem isNaN_c (k n : Int) (w : World) : Calls Tryz.prog 131 #[.agg #[.int .i64 k, .int .i64 n]] w fun e w' => e = .returned (.bool (k == 2)) ∧ Plus w w' := by
  go_enter Tryz.func131, Tryz.ntmps131
  go_wp2
  go_ret
  exact ⟨rfl, (Plus.refl _).alloc _⟩

theorem rnan_c (k n : Int) (w : World) : Calls Tryz.prog 135 #[.agg #[.int .i64 k, .int .i64 n]] w fun e w' => e = .returned (.bool (k == 2)) ∧ Plus w w' := by
  go_enter Tryz.func135, Tryz.ntmps135
  go_wp2
  go_ret
  exact ⟨rfl, (Plus.refl _).alloc _⟩

theorem kind_c (k : Int) (w : World) : Calls Tryz.prog 98 #[.int .i64 k] w fun e w' => e = .returned (.agg #[.int .i64 k, .int .i64 0]) ∧ Plus w w' := by
  go_enter Tryz.func98, Tryz.ntmps98
  go_wp2
  go_returns
  exact ⟨rfl, (Plus.refl _).alloc _⟩

theorem rNaN_c  (w : World) : Calls Tryz.prog 46 #[] w fun e w' => e = .returned (.agg #[.int .i64 2, .int .i64 0]) ∧ Plus w w' := by
  go_enter Tryz.func46, Tryz.ntmps46
  go_wp2_with (go_at_call 98; refine (kind_c _ _).mono ?_; rintro e w1 ⟨rfl, ⟨x1, rfl⟩⟩)
  go_returns
  exact ⟨rfl, ((Plus.refl _).alloc _).plus _⟩

theorem rinf_c (k n : Int) (w : World) : Calls Tryz.prog 148 #[.agg #[.int .i64 k, .int .i64 n]] w fun e w' => e = .returned (.bool (k == 3 || k == 4)) ∧ Plus w w' := by
  by_cases h : k = 3
  · subst h
    go_enter Tryz.func148, Tryz.ntmps148
    go_wp2
    go_ret
    exact ⟨rfl, (Plus.refl _).alloc _⟩
  · have h3 := beq_f h
    rw [h3]
    go_enter Tryz.func148, Tryz.ntmps148
    go_wp2
    go_ret
    exact ⟨rfl, (Plus.refl _).alloc _⟩

theorem rnought_c (k n : Int) (w : World) : Calls Tryz.prog 149 #[.agg #[.int .i64 k, .int .i64 n]] w fun e w' => e = .returned (.bool (k == 1 || (k == 0 && n == 0))) ∧ Plus w w' := by
  by_cases h : k = 1
  · subst h
    go_enter Tryz.func149, Tryz.ntmps149
    go_wp2
    go_ret
    exact ⟨rfl, (Plus.refl _).alloc _⟩
  · have h3 := beq_f h
    rw [h3]
    by_cases h0 : k = 0
    · subst h0
      go_enter Tryz.func149, Tryz.ntmps149
      go_wp2
      go_ret
      exact ⟨rfl, (Plus.refl _).alloc _⟩
    · have h4 := beq_f h0
      rw [h4]
      go_enter Tryz.func149, Tryz.ntmps149
      go_wp2
      go_ret
      exact ⟨rfl, (Plus.refl _).alloc _⟩

theorem rbelow_c (k n : Int) (w : World) : Calls Tryz.prog 151 #[.agg #[.int .i64 k, .int .i64 n]] w fun e w' => e = .returned (.bool (negB k n)) ∧ Plus w w' := by
  have hm : ∀ b : Bool, b = negB k n → (Value.bool b) = .bool (negB k n) := fun b h => by rw [h]
  have HM := Lib.hid hm; clear hm
  go_enter Tryz.func151, Tryz.ntmps151
  go_wp2
  all_goals go_ret
  all_goals refine ⟨congrArg Ending.returned (HM.out _ ?_), (Plus.refl _).alloc _⟩
  all_goals (unfold negB; simp_all)

theorem rmay_c (k n : Int) (w : World) : Calls Tryz.prog 183 #[.agg #[.int .i64 k, .int .i64 n]] w fun e w' => e = .returned (.bool (mayB k n)) ∧ Plus w w' := by
  have hm : ∀ b : Bool, b = mayB k n → (Value.bool b) = .bool (mayB k n) := fun b h => by rw [h]
  have HM := Lib.hid hm; clear hm
  go_enter Tryz.func183, Tryz.ntmps183
  go_wp2
  all_goals go_ret
  all_goals refine ⟨congrArg Ending.returned (HM.out _ ?_), (Plus.refl _).alloc _⟩
  all_goals (unfold mayB; simp_all)
  all_goals omega

theorem rgood_c (k n : Int) (w : World) : Calls Tryz.prog 122 #[.agg #[.int .i64 k, .int .i64 n]] w fun e w' => e = .returned (.agg #[.int .i64 (vk k n), .int .i64 (vn k n)]) ∧ Plus w w' := by
  by_cases h : mayB k n = true
  · have h1 : vk k n = k := by unfold vk; rw [if_pos h]
    have h2 : vn k n = n := by unfold vn; rw [if_pos h]
    rw [h1, h2]; clear h1 h2
    go_enter Tryz.func122, Tryz.ntmps122
    go_wp2_with (first | (go_at_call 183; refine (rmay_c _ _ _).mono ?_; rintro e w1 ⟨rfl, ⟨x1, rfl⟩⟩) | (go_at_call 98; refine (kind_c _ _).mono ?_; rintro e w1 ⟨rfl, ⟨x2, rfl⟩⟩))
    go_returns
    refine ⟨rfl, ?_⟩
    repeat' (first | exact Plus.refl _ | refine Plus.alloc ?_ _ | refine Plus.plus ?_ _ | refine Plus.drew ?_ | refine Plus.drewN ?_ _)
  · have h1 : vk k n = 2 := by unfold vk; rw [if_neg h]
    have h2 : vn k n = 0 := by unfold vn; rw [if_neg h]
    have h' : mayB k n = false := by simpa using h
    rw [h1, h2]; clear h1 h2 h
    go_enter Tryz.func122, Tryz.ntmps122
    go_wp2_with (first | (go_at_call 183; refine (rmay_c _ _ _).mono ?_; rintro e w1 ⟨rfl, ⟨x1, rfl⟩⟩) | (go_at_call 98; refine (kind_c _ _).mono ?_; rintro e w1 ⟨rfl, ⟨x2, rfl⟩⟩))
    go_returns
    refine ⟨rfl, ?_⟩
    repeat' (first | exact Plus.refl _ | refine Plus.alloc ?_ _ | refine Plus.plus ?_ _ | refine Plus.drew ?_ | refine Plus.drewN ?_ _)

theorem rgood_h {k n p q : Int} (h : Hid (vk k n = p ∧ vn k n = q)) (w : World) : Calls Tryz.prog 122 #[.agg #[.int .i64 k, .int .i64 n]] w fun e w' => e = .returned (.agg #[.int .i64 p, .int .i64 q]) ∧ Plus w w' := by
  obtain ⟨rfl, rfl⟩ := h.out
  exact rgood_c k n w

set_option maxHeartbeats 2000000 in
theorem whole_h {k n p q : Int} (h1 : Hid (vk k n = p ∧ vn k n = q)) (hp : Hid (IsV p q)) (w : World) :
    Calls Tryz.prog 66 #[.agg #[.int .i64 k, .int .i64 n]] w fun e w' => e = .returned (.agg #[.int .i64 (wholeS p q).k, .int .i64 (wholeS p q).n]) ∧ Plus w w' := by
  have g1 := hp.out
  clear hp
  rcases g1 with ⟨rfl, hq1, hq2⟩ | ⟨rfl, rfl⟩ | ⟨rfl, rfl⟩ | ⟨rfl, rfl⟩ | ⟨rfl, rfl⟩
  all_goals go_enter Tryz.func66, Tryz.ntmps66
  all_goals go_wp2_with (first | (go_at_call 116; refine (valid_h h1 _).mono ?_; rintro e w1 ⟨rfl, ⟨x0, rfl⟩⟩) | (go_at_call 128; refine (zero_c _ _).mono ?_; rintro e w1 ⟨rfl, ⟨x2, rfl⟩⟩))
  all_goals go_returns
  all_goals refine ⟨?_, ?_⟩
  all_goals first | (simp [wholeS, zeroK, *]; done) | (with_reducible (repeat' (first | exact Plus.refl _ | refine Plus.alloc ?_ _ | refine Plus.plus ?_ _ | refine Plus.drew ?_ | refine Plus.drewN ?_ _)); done) | (simp_all [wholeS, zeroK]; done) | skip
  all_goals go_show

theorem whole_c (k n : Int) (w : World) : Calls Tryz.prog 66 #[.agg #[.int .i64 k, .int .i64 n]] w fun e w' => e = .returned (.agg #[.int .i64 (wholeR k n).k, .int .i64 (wholeR k n).n]) ∧ Plus w w' :=
  whole_h ⟨rfl, rfl⟩ (isV_v k n) w

set_option maxHeartbeats 4000000 in
theorem text_i (k n p q : Int) (hv : Hid (vk k n = p ∧ vn k n = q)) (b2 : (p == 2) = false) (b3 : (p == 3) = false) (b4 : (p == 4) = false) (h0 : -9223372036854775808 ≤ q) (h1 : q ≤ 9223372036854775807) (T : ByteArray) (hT : Hid (T = ⟨(Lib.itoa q).toArray⟩)) (w : World) (hL : Hid (Lai w)) :
    Calls Tryz.prog 58 #[.agg #[.int .i64 k, .int .i64 n]] w fun e w' => e = .returned (.string T) ∧ Plus w w' := by
  go_enter Tryz.func58, Tryz.ntmps58
  go_wp2_with (first | (go_at_call 116; (with_reducible refine (valid_h hv _).mono ?_); rintro e w1 ⟨rfl, ⟨x1, rfl⟩⟩) | (go_at_call 117; (with_reducible refine (itoa_c q h0 h1 _ (hL.out.plus (by repeat' (first | exact Plus.refl _ | refine Plus.alloc ?_ _ | refine Plus.plus ?_ _ | refine Plus.drew ?_ | refine Plus.drewN ?_ _)))).mono ?_); rintro e w1 ⟨rfl, ⟨x2, rfl⟩⟩; rw [← hT.out]))
  go_returns
  exact ⟨rfl, (by repeat' (first | exact Plus.refl _ | refine Plus.alloc ?_ _ | refine Plus.plus ?_ _ | refine Plus.drew ?_ | refine Plus.drewN ?_ _))⟩

set_option maxHeartbeats 4000000 in
theorem text_n (k n : Int) (hv : Hid (vk k n = 2 ∧ vn k n = 0)) (w : World) : Calls Tryz.prog 58 #[.agg #[.int .i64 k, .int .i64 n]] w fun e w' => e = .returned (.string ⟨#[78, 97, 78]⟩) ∧ Plus w w' := by
  go_enter Tryz.func58, Tryz.ntmps58
  go_wp2_with (first | (go_at_call 116; (with_reducible refine (valid_h hv _).mono ?_); rintro e w1 ⟨rfl, ⟨x1, rfl⟩⟩))
  go_returns
  exact ⟨rfl, (by repeat' (first | exact Plus.refl _ | refine Plus.alloc ?_ _ | refine Plus.plus ?_ _ | refine Plus.drew ?_ | refine Plus.drewN ?_ _))⟩

set_option maxHeartbeats 4000000 in
theorem text_p (k n : Int) (hv : Hid (vk k n = 3 ∧ vn k n = 0)) (w : World) : Calls Tryz.prog 58 #[.agg #[.int .i64 k, .int .i64 n]] w fun e w' => e = .returned (.string ⟨#[73, 110, 102, 105, 110, 105, 116, 121]⟩) ∧ Plus w w' := by
  go_enter Tryz.func58, Tryz.ntmps58
  go_wp2_with (first | (go_at_call 116; (with_reducible refine (valid_h hv _).mono ?_); rintro e w1 ⟨rfl, ⟨x1, rfl⟩⟩))
  go_returns
  exact ⟨rfl, (by repeat' (first | exact Plus.refl _ | refine Plus.alloc ?_ _ | refine Plus.plus ?_ _ | refine Plus.drew ?_ | refine Plus.drewN ?_ _))⟩

set_option maxHeartbeats 4000000 in
theorem text_m (k n : Int) (hv : Hid (vk k n = 4 ∧ vn k n = 0)) (w : World) : Calls Tryz.prog 58 #[.agg #[.int .i64 k, .int .i64 n]] w fun e w' => e = .returned (.string ⟨#[45, 73, 110, 102, 105, 110, 105, 116, 121]⟩) ∧ Plus w w' := by
  go_enter Tryz.func58, Tryz.ntmps58
  go_wp2_with (first | (go_at_call 116; (with_reducible refine (valid_h hv _).mono ?_); rintro e w1 ⟨rfl, ⟨x1, rfl⟩⟩))
  go_returns
  exact ⟨rfl, (by repeat' (first | exact Plus.refl _ | refine Plus.alloc ?_ _ | refine Plus.plus ?_ _ | refine Plus.drew ?_ | refine Plus.drewN ?_ _))⟩

theorem text_c (k n : Int) (w : World) (hL : Lai w) : Calls Tryz.prog 58 #[.agg #[.int .i64 k, .int .i64 n]] w fun e w' => e = .returned (.string ⟨(txtR k n).toArray⟩) ∧ Plus w w' := by
  have hv := isV_v k n
  unfold txtR
  obtain ⟨p, hp⟩ : ∃ p, vk k n = p := ⟨_, rfl⟩
  obtain ⟨q, hq⟩ : ∃ q, vn k n = q := ⟨_, rfl⟩
  rw [hp, hq] at hv
  rw [hp, hq]
  rcases hv with ⟨rfl, h1, h2⟩ | ⟨rfl, rfl⟩ | ⟨rfl, rfl⟩ | ⟨rfl, rfl⟩ | ⟨rfl, rfl⟩
  · exact text_i k n 0 q (Lib.hid ⟨hp, hq⟩) (by decide) (by decide) (by decide) (by omega) (by omega) _ (Lib.hid (by unfold txtS; rw [if_neg (by decide), if_neg (by decide), if_neg (by decide)])) w (Lib.hid hL)
  · exact text_i k n 1 0 (Lib.hid ⟨hp, hq⟩) (by decide) (by decide) (by decide) (by omega) (by omega) _ (Lib.hid (by unfold txtS; rw [if_neg (by decide), if_neg (by decide), if_neg (by decide)])) w (Lib.hid hL)
  · exact text_n k n (Lib.hid ⟨hp, hq⟩) w
  · exact text_p k n (Lib.hid ⟨hp, hq⟩) w
  · exact text_m k n (Lib.hid ⟨hp, hq⟩) w
theorem text_v {k n : Int} {T : ByteArray} (h : Hid ((⟨(txtR k n).toArray⟩ : ByteArray) = T)) (w : World) (hL : Lai w) : Calls Tryz.prog 58 #[.agg #[.int .i64 k, .int .i64 n]] w fun e w' => e = .returned (.string T) ∧ Plus w w' := by
  have c := text_c k n w hL
  rw [h.out] at c
  exact c
end Go.Proofs.YtakahpbondaidaaGreatDoor
namespace Go.Proofs.YtakahpbondaidaaGreatDoor
open Go.RowKit

theorem Plus.cell {W w' : World} (h : Plus W w') (n i : Nat) (hn : n < W.heap.size) : w'.cell? ⟨n, i, none⟩ = W.cell? ⟨n, i, none⟩ := h.below.cell (p := ⟨n, i, none⟩) hn
theorem Plus.frozen {W w' : World} (h : Plus W w') (n i : Nat) (hn : n < W.heap.size) : w'.frozen? ⟨n, i, none⟩ = W.frozen? ⟨n, i, none⟩ := h.below.frozen (p := ⟨n, i, none⟩) hn
theorem Plus.size {W w' : World} (h : Plus W w') : W.heap.size ≤ w'.heap.size := h.below.size
theorem Plus.setCell {w w' : World} (h : Plus w w') {p : Addr} (hp : w.heap.size ≤ p.block) (v : Value) : Plus w (w'.setCell p v) := .of_below (h.below.setCell hp v)

theorem dd_dig : ∀ (m : Nat), ∀ x ∈ Lib.decDigits m, 48 ≤ x.toNat ∧ x.toNat ≤ 57 := fun m => by
  induction m using Nat.strongRecOn with
  | _ m ih =>
    intro x hx
    by_cases h : m < 10
    · rw [Lib.decDigits_one h] at hx
      simp only [List.mem_singleton] at hx
      subst hx
      rw [UInt8.toNat_ofNat']
      omega
    · rw [Lib.decDigits, dif_neg h] at hx
      rcases List.mem_append.1 hx with h1 | h1
      · exact ih (m / 10) (by omega) x h1
      · simp only [List.mem_singleton] at h1
        subst h1
        rw [UInt8.toNat_ofNat']
        omega
theorem dd_head : ∀ (m : Nat), 0 < m → ∃ c r, Lib.decDigits m = c :: r ∧ c.toNat ≠ 48 := fun m => by
  induction m using Nat.strongRecOn with
  | _ m ih =>
    intro h0
    by_cases h : m < 10
    · refine ⟨_, _, Lib.decDigits_one h, ?_⟩
      rw [UInt8.toNat_ofNat']
      omega
    · obtain ⟨c, r, e, q⟩ := ih (m / 10) (by omega) (by omega)
      exact ⟨c, r ++ [UInt8.ofNat (48 + m % 10)], by rw [Lib.decDigits, dif_neg h, e]; rfl, q⟩
theorem dd_cons (m : Nat) : ∃ c r, Lib.decDigits m = c :: r ∧ 48 ≤ c.toNat ∧ c.toNat ≤ 57 := by
  rcases Nat.eq_zero_or_pos m with rfl | h
  · exact ⟨48, [], Lib.decDigits_one (by omega), by decide, by decide⟩
  · obtain ⟨c, r, e, _⟩ := dd_head m h
    have := dd_dig m c (by rw [e]; simp)
    exact ⟨c, r, e, this⟩
theorem not_name {l : List UInt8} (h : ∀ x ∈ l, 48 ≤ x.toNat ∧ x.toNat ≤ 57) (d : UInt8) (r : List UInt8) (hd : d.toNat < 48 ∨ 57 < d.toNat) : l ≠ d :: r := by
  rintro rfl
  have := h d (by simp)
  omega
theorem pu_all : ∀ (m : Nat), m ≤ 9223372036854775807 → ∀ r, Lib.parseUint10 0 (Lib.decDigits m ++ r) = Lib.parseUint10 m r := fun m => by
  induction m using Nat.strongRecOn with
  | _ m ih =>
    intro hm r
    by_cases h : m < 10
    · rw [Lib.decDigits_one h]
      have e : (UInt8.ofNat (48 + m)).toNat = 48 + m := by rw [UInt8.toNat_ofNat']; omega
      show Lib.parseUint10 0 (UInt8.ofNat (48 + m) :: r) = _
      rw [Lib.parseUint10, e, if_pos (by omega), if_neg (by omega), if_neg (by omega)]
      congr 1
      omega
    · rw [Lib.decDigits, dif_neg h, List.append_assoc, ih (m / 10) (by omega) (by omega)]
      have e : (UInt8.ofNat (48 + m % 10)).toNat = 48 + m % 10 := by rw [UInt8.toNat_ofNat']; omega
      show Lib.parseUint10 (m / 10) (UInt8.ofNat (48 + m % 10) :: r) = _
      rw [Lib.parseUint10, e, if_pos (by omega), if_neg (by omega), if_neg (by omega)]
      congr 1
      omega
theorem atoi_all {m : Nat} (hm : m ≤ 9223372036854775807) : Lib.atoiAll (Lib.decDigits m) = .ok (m : Int) := by
  have h := pu_all m hm []
  rw [List.append_nil] at h
  obtain ⟨c, r, e, h1, h2⟩ := dd_cons m
  rw [e] at h ⊢
  have h3 : Lib.parseMag (c :: r) = .ok m := by
    unfold Lib.parseMag
    rw [if_neg (by simp), h]
    rfl
  unfold Lib.atoiAll
  simp only
  rw [if_neg (by omega), h3]
  simp only
  rw [if_neg (by omega), if_neg (by omega), if_neg (by omega)]
theorem par_all {m : Nat} (hm : m ≤ 9223372036854775807) : parS (Lib.decDigits m) = if m ≤ 9007199254740991 then ⟨0, m, true⟩ else ofS m := by
  unfold parS
  rw [if_neg (not_name (dd_dig m) 78 _ (by decide)), if_neg (not_name (dd_dig m) 73 _ (by decide)), if_neg (not_name (dd_dig m) 45 _ (by decide)), atoi_all hm]
  simp only
  rw [if_pos (Lib.itoa_nonneg m)]
  split
  · unfold ofS
    rw [if_pos (by omega)]
  · rfl
theorem txt_size {p q : Int} (h : IsV p q) : (⟨(txtS p q).toArray⟩ : ByteArray).size ≤ 1000 := by
  have hd : ∀ (k m : Nat), m < 10 ^ (k + 1) → (Lib.decDigits m).length ≤ k + 1 := by
    intro k
    induction k with
    | zero => intro m h; rw [Lib.decDigits_one (by simpa using h)]; simp
    | succ k ih =>
      intro m h
      by_cases q : m < 10
      · rw [Lib.decDigits_one q]; simp
      · rw [Lib.decDigits, dif_neg q, List.length_append]
        have := ih (m / 10) (by rw [Nat.pow_succ] at h; omega)
        simp
        omega
  have hi : -9007199254740991 ≤ q → q ≤ 9007199254740991 → (Lib.itoa q).length ≤ 100 := fun h1 h2 => by
    unfold Lib.itoa
    split
    · have := hd 19 q.natAbs (by omega)
      simp
      omega
    · have := hd 19 q.toNat (by omega)
      omega
  show (txtS p q).toArray.size ≤ 1000
  simp only [List.size_toArray]
  rcases h with ⟨rfl, h1, h2⟩ | ⟨rfl, rfl⟩ | ⟨rfl, rfl⟩ | ⟨rfl, rfl⟩ | ⟨rfl, rfl⟩
  · have := hi h1 h2
    unfold txtS
    rw [if_neg (by decide), if_neg (by decide), if_neg (by decide)]
    omega
  · have := hi (by decide) (by decide)
    unfold txtS
    rw [if_neg (by decide), if_neg (by decide), if_neg (by decide)]
    omega
  · decide
  · decide
  · decide



theorem conv_cell (d : Nat) (hd : d < 256) (W : World) (g : Nat) (h : W.cell? ⟨g, 0, none⟩ = some (.int .u8 (d : Int))) : (convert 125 9 (.slice (some ⟨g, 0, none⟩) 1 1)).run Tryz.prog W = .ok (.string ⟨#[UInt8.ofNat d]⟩) W := by
  have q := run_convert_bytes_back (P := Tryz.prog) W 125 9 5 ⟨g, 0, none⟩ 1 [UInt8.ofNat d] Tryz.underlying125 Tryz.underlying5 Tryz.underlying9 (fun j hj => by
    have : j = 0 := by simp at hj; exact hj
    subst this
    have e : (UInt8.ofNat d).toNat = d := by rw [UInt8.toNat_ofNat']; omega
    show W.cell? _ = some (.int .u8 (((UInt8.ofNat d).toNat : Nat) : Int))
    rw [e, ← h]
    rfl)
  exact q
theorem conv_one0 (d : Nat) (hd : d < 256) (v : World) : (convert 125 9 (.slice (some ⟨v.heap.size, 0, none⟩) 1 1)).run Tryz.prog (v.alloc (.cells #[.int .u8 (d : Int)] 5)) = .ok (.string ⟨#[UInt8.ofNat d]⟩) (v.alloc (.cells #[.int .u8 (d : Int)] 5)) :=
  conv_cell d hd _ _ (by rw [World.cell?_alloc_at _ _ _ _ rfl]; rfl)
set_option maxRecDepth 100000 in
set_option maxHeartbeats 4000000 in
theorem dec_small (m : Nat) (hm : m < 10) (w : World) (T : ByteArray) (hT : Hid (T = ⟨#[UInt8.ofNat (48 + m)]⟩)) : Calls Tryz.prog 123 #[.int .i64 m] w fun e w' => e = .returned (.string T) ∧ Plus w w' := by
  have hc := conv_one0 (48 + m) (by omega) w
  rw [show ((48 + m : Nat) : Int) = 48 + (m : Int) by omega, ← hT.out] at hc
  go_enter Tryz.func123, Tryz.ntmps123
  go_wp2
  go_ret
  exact ⟨rfl, (by repeat' (first | exact Plus.refl _ | refine Plus.alloc ?_ _ | refine Plus.plus ?_ _ | refine Plus.drew ?_ | refine Plus.drewN ?_ _))⟩
set_option maxRecDepth 100000 in
set_option maxHeartbeats 2000000 in
theorem dec_big (m p b : Int) (hm : 10 ≤ m) (hm2 : m ≤ 9223372036854775807) (hw1 : IntKind.i64.wrap (m.tdiv 10) = p) (hw2 : IntKind.u8.wrap (IntKind.i64.wrap (48 + m.tmod 10)) = b) (S T U : ByteArray) (hU : Hid (U = S ++ T)) (hS : S.size ≤ 30) (hTs : T.size = 1)
    (hA : Hid (∀ (v : World) x, (convert 125 9 (.slice (some ⟨v.heap.size, 0, none⟩) 1 1)).run Tryz.prog (plus (v.alloc (.cells #[.int .u8 b] 5)) x) = .ok (.string T) (plus (v.alloc (.cells #[.int .u8 b] 5)) x)))
    (hB : Hid (∀ (v : World), (convert 125 9 (.slice (some ⟨v.heap.size, 0, none⟩) 1 1)).run Tryz.prog (v.alloc (.cells #[.int .u8 b] 5)) = .ok (.string T) (v.alloc (.cells #[.int .u8 b] 5))))
    (ih : Hid (∀ w, Calls Tryz.prog 123 #[.int .i64 p] w fun e w' => e = .returned (.string S) ∧ Plus w w')) (w : World) : Calls Tryz.prog 123 #[.int .i64 m] w fun e w' => e = .returned (.string U) ∧ Plus w w' := by
  have hcA : ∀ x, (convert 125 9 (.slice (some ⟨w.heap.size, 0, none⟩) 1 1)).run Tryz.prog (plus (w.alloc (.cells #[.int .u8 b] 5)) x) = .ok (.string T) (plus (w.alloc (.cells #[.int .u8 b] 5)) x) := fun x => hA.out w x
  have hcB : (convert 125 9 (.slice (some ⟨w.heap.size, 0, none⟩) 1 1)).run Tryz.prog (w.alloc (.cells #[.int .u8 b] 5)).drew = .ok (.string T) (w.alloc (.cells #[.int .u8 b] 5)).drew := hB.out w.drew
  have hcC : ∀ x, (convert 125 9 (.slice (some ⟨w.heap.size + x.blocks.length, 0, none⟩) 1 1)).run Tryz.prog ((plus w x).alloc (.cells #[.int .u8 b] 5)) = .ok (.string T) ((plus w x).alloc (.cells #[.int .u8 b] 5)) := fun x => by
    have := hB.out (plus w x)
    rw [size_plus] at this
    exact this
  go_enter Tryz.func123, Tryz.ntmps123
  go_wp2_with fail
  go_region_with (go_at_call 123; (with_reducible refine (ih.out _).mono ?_); rintro e w1 ⟨rfl, ⟨x1, rfl⟩⟩)
  all_goals
    go_wp2_with fail
    go_returns
    exact ⟨by rw [hU.out]; rfl, (by repeat' (first | exact Plus.refl _ | refine Plus.alloc ?_ _ | refine Plus.plus ?_ _ | refine Plus.drew ?_ | refine Plus.drewN ?_ _))⟩
end Go.Proofs.YtakahpbondaidaaGreatDoor
