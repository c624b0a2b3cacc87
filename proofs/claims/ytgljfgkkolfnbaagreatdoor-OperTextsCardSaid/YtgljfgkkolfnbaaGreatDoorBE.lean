/- Contracts of the statements' own lists: copies, lists held against one another. Contract: Number, of any units. Contract: renref.Ascii. -/
import Derived.Test.YtgljfgkkolfnbaaGreatDoorBD
import Derived.Test.YtgljfgkkolfnbaaGreatDoorBB
import Derived.IntWalk
import Derived.Test.YtgljfgkkolfnbaaGreatDoorBC
namespace Go.Proofs.YtgljfgkkolfnbaaGreatDoor
open Go.RowKit


def EqRel5 (xs ys : List Nat) (s13 : Value) : Prop := ∃ k : Nat, k ≤ xs.length ∧ s13 = .int .i64 k ∧ xs.take k = ys.take k
set_option maxRecDepth 100000 in
set_option maxHeartbeats 1000000 in
theorem refUnits_c (A C : Option Addr) (xs ys : List Nat) (n c m d : Nat) (w : World) (ha : Ar .u16 65536 w A xs n c) (hb : Ar .u16 65536 w C ys m d) :
    Calls Tryz.prog 118 #[.slice A n c, .slice C m d] w fun e w' => e = .returned (.bool (decide (xs = ys))) ∧ Plus w w' := by
  obtain ⟨hrd, hlen, hcap, hmax, hbd⟩ := ha
  obtain ⟨krd, klen, kcap, kmax, kbd⟩ := hb
  subst hlen klen
  by_cases hl : xs.length = ys.length
  · have b1 : ((xs.length : Int) != (ys.length : Int)) = false := by simp [hl]
    have HL := Lib.hid hl
    clear hl
    go_enter Tryz.func118, Tryz.ntmps118
    go_wp2
    go_loopw [5] (fun s13 wr => EqRel5 xs ys s13 ∧ Plus w wr) (fun s13 _ => ((xs.length : Int) - intOf s13).toNat)
    case atStart => exact ⟨⟨0, by omega, rfl, rfl⟩, Plus.refl _⟩
    case round =>
      obtain ⟨⟨k, hk, rfl, he⟩, hp⟩ := hrel
      by_cases hlt : k < xs.length
      · obtain ⟨g, o, rfl, hg, hat⟩ := hrd.at_ hlt
        have hlt2 : k < ys.length := by rw [← HL.out]; exact hlt
        obtain ⟨g2, o2, rfl, hg2, hat2⟩ := krd.at_ hlt2
        have hcell := hat.plus hg hp k hlt
        have hcell2 := hat2.plus hg2 hp k hlt2
        have hadd := add_addr g o k
        have hadd2 := add_addr g2 o2 k
        have HE := Lib.hid he
        have HP := Lib.hid hp
        clear he hat hat2 hp
        obtain ⟨v, hv⟩ : ∃ v, xs.getD k 0 = v := ⟨_, rfl⟩
        obtain ⟨u, hu⟩ : ∃ u, ys.getD k 0 = u := ⟨_, rfl⟩
        rw [hv] at hcell
        rw [hu] at hcell2
        have HV := Lib.hid hv
        have HU := Lib.hid hu
        clear hv hu
        by_cases hvu : v = u
        · subst hvu
          have HT := Lib.hid (take_ext HE.out hlt hlt2 (by rw [HV.out, HU.out]))
          go_wp2_with fail
          go_quiet (fail)
          go_wp2_with fail
          go_roundw
          case rel => exact ⟨⟨k + 1, hlt, by rw [show ((k + 1 : Nat) : Int) = (k : Int) + 1 by omega], HT.out⟩, HP.out.drewN _⟩
          case measure => simp [intOf]; omega
        · have b2 : ((v : Int) != (u : Int)) = true := by simp; omega
          have HN : Hid (decide (xs = ys) = false) := Lib.hid (by simp; intro e; subst e; exact hvu (HV.out.symm.trans HU.out))
          go_wp2_with fail
          go_quiet (fail)
          go_wp2_with fail
          go_ret
          exact ⟨by rw [HN.out]; rfl, HP.out.drewN _⟩
      · obtain rfl : k = xs.length := by omega
        have HR : Hid (decide (xs = ys) = true) := Lib.hid (by
          rw [List.take_length, HL.out, List.take_length] at he
          simpa using he)
        have HP := Lib.hid hp
        clear he hp
        go_wp2_with fail
        go_ret
        exact ⟨by rw [HR.out]; rfl, HP.out⟩
  · have b1 : ((xs.length : Int) != (ys.length : Int)) = true := by simp; omega
    have HN : Hid (decide (xs = ys) = false) := Lib.hid (by simp; intro e; subst e; exact hl rfl)
    go_enter Tryz.func118, Tryz.ntmps118
    go_wp2
    go_ret
    exact ⟨by rw [HN.out]; rfl, Plus.refl _⟩

end Go.Proofs.YtgljfgkkolfnbaaGreatDoor

namespace Go.Proofs.YtgljfgkkolfnbaaGreatDoor
open Go.RowKit


/-- The number of a text without its outer blanks. -/
def numT (T : List UInt8) : Ans :=
  if T = [] then ⟨0, 0, true⟩
  else if unsT T = infS then ⟨if Lib.hasPrefix T [45] then 4 else 3, 0, true⟩
  else if unsT T ≠ [] ∧ Lib.trimS (unsT T) digS = [] then ⟨sgnK (Lib.hasPrefix T [45]) (parS (wzT (unsT T))).k (parS (wzT (unsT T))).n, sgnN (Lib.hasPrefix T [45]) (parS (wzT (unsT T))).k (parS (wzT (unsT T))).n, (parS (wzT (unsT T))).ok⟩
  else ⟨2, 0, !(Lib.containsAny T digS && decide (Lib.trimS T numS = []))⟩
/-- The number of units. -/
def numU (xs : List Nat) : Ans := if low xs then numT (Lib.trimS ((xs.map Nat.toUInt8)) blankS) else ⟨2, 0, true⟩
theorem trimL_sub (l c : List UInt8) : (Lib.trimLeftS l c).Sublist l := List.dropWhile_sublist _
theorem trimR_sub (l c : List UInt8) : (Lib.trimRightS l c).Sublist l := by
  unfold Lib.trimRightS
  have := (List.dropWhile_sublist (fun x => c.contains x) (l := l.reverse)).reverse
  rw [List.reverse_reverse] at this
  exact this
theorem trim_sub (l c : List UInt8) : (Lib.trimS l c).Sublist l := (trimL_sub _ _).trans (trimR_sub _ _)
theorem uns_sub (l : List UInt8) : (unsT l).Sublist l := by
  have h : ∀ p, (Lib.trimPrefix l p).Sublist l := fun p => by
    unfold Lib.trimPrefix
    split
    · exact List.drop_sublist _ _
    · exact List.Sublist.refl _
  unfold unsT
  split
  · exact h _
  · exact h _
theorem wz_len (l : List UInt8) : (wzT l).length ≤ l.length + 1 := by
  unfold wzT
  have := (trimL_sub l [48]).length_le
  split
  · simp
  · omega
theorem low_asc {xs : List Nat} (h : low xs = true) : asc (xs.map Nat.toUInt8) := fun x hx => by
  obtain ⟨y, hy, rfl⟩ := List.mem_map.1 hx
  unfold low at h
  have h2 := List.all_eq_true.1 h y hy
  simp at h2
  rw [toNat_u8 (by omega)]
  exact h2
theorem number_c (A : Option Addr) (xs : List Nat) (n c : Nat) (w : World) (hL : Lai w) (h : Ar .u16 65536 w A xs n c) (hs : n ≤ 1000000) :
    Calls Tryz.prog 131 #[.slice A n c] w fun e w' => e = .returned (.tuple #[.agg #[.int .i64 (numU xs).k, .int .i64 (numU xs).n], .bool (numU xs).ok]) ∧ Plus w w' := by
  unfold numU
  cases hl : low xs
  · exact number_low A xs n c w (Lib.hid h) (by omega) (Lib.hid hl)
  · have hn := h.len
    have hd : (plS xs).data.toList = xs.map Nat.toUInt8 := by unfold plS; rw [if_pos hl]; rfl
    have hz : (plS xs).size ≤ 1048576 := by unfold plS; rw [if_pos hl, byts_size]; omega
    have ht := trim_sub (xs.map Nat.toUInt8) blankS
    have htl := ht.length_le
    rw [List.length_map] at htl
    have hta : asc (Lib.trimS (xs.map Nat.toUInt8) blankS) := fun x hx => low_asc hl x (ht.subset hx)
    have hT : Lib.trimS (plS xs).data.toList (⟨#[32, 9, 10, 13]⟩ : ByteArray).data.toList = Lib.trimS (xs.map Nat.toUInt8) blankS := by rw [hd]; rfl
    rw [if_pos rfl]
    generalize Lib.trimS (xs.map Nat.toUInt8) blankS = T at *
    have hu := (uns_sub T).length_le
    have hw := wz_len (unsT T)
    unfold numT
    by_cases h0 : T = []
    · rw [if_pos h0]
      exact number_nil A xs n c w (Lib.hid h) (by omega) (Lib.hid hl) (Lib.hid (hT.trans h0)) hz
    · rw [if_neg h0]
      by_cases h1 : unsT T = infS
      · rw [if_pos h1]
        exact number_inf A xs n c w (Lib.hid h) (by omega) (Lib.hid hl) T (Lib.hid hT) hz (Lib.hid h0) _ (Lib.hid rfl) _ (Lib.hid rfl) (Lib.hid h1) _ (Lib.hid rfl)
      · rw [if_neg h1]
        by_cases h2 : unsT T ≠ [] ∧ Lib.trimS (unsT T) digS = []
        · rw [if_pos h2]
          exact number_dig A xs n c w (Lib.hid hL) (Lib.hid h) (by omega) (Lib.hid hl) T (Lib.hid hT) hz (Lib.hid h0) _ (Lib.hid rfl) _ (Lib.hid rfl) (Lib.hid h1) (Lib.hid h2.1) (by omega) (Lib.hid (by simpa using h2.2))
            _ _ _ (Lib.hid rfl) (by omega) _ _ (Lib.hid rfl) (Lib.hid rfl)
        · rw [if_neg h2]
          refine number_none A xs n c w (Lib.hid h) (by omega) (Lib.hid hl) T (Lib.hid hT) hz (Lib.hid h0) _ (Lib.hid rfl) _ (Lib.hid rfl) (Lib.hid h1) (by omega) (by omega) (Lib.hid hta) (Lib.hid ?_) _ _ _ (Lib.hid rfl) (Lib.hid rfl) (Lib.hid rfl)
          by_cases h3 : unsT T = []
          · exact .inl h3
          · right
            refine ⟨h3, ?_⟩
            simp
            intro q
            exact h2 ⟨h3, q⟩
theorem refNum_c (k n l m : Int) (w : World) : Calls Tryz.prog 116 #[.agg #[.int .i64 k, .int .i64 n], .agg #[.int .i64 l, .int .i64 m]] w fun e w' => e = .returned (.bool (decide (k = l ∧ n = m))) ∧ Plus w w' := by
  by_cases h : k = l
  · by_cases h2 : n = m
    · subst h h2
      go_enter Tryz.func116, Tryz.ntmps116
      go_wp2
      go_ret
      exact ⟨by simp, (by repeat' (first | exact Plus.refl _ | refine Plus.alloc ?_ _ | refine Plus.plus ?_ _ | refine Plus.drew ?_ | refine Plus.drewN ?_ _))⟩
    · have b1 : (n == m) = false := by simpa using h2
      subst h
      have HN : Hid (decide (k = k ∧ n = m) = false) := Lib.hid (by simp [h2])
      rw [HN.out]
      go_enter Tryz.func116, Tryz.ntmps116
      go_wp2
      go_ret
      exact ⟨by first | rfl | (rw [HN.out]; rfl), (by repeat' (first | exact Plus.refl _ | refine Plus.alloc ?_ _ | refine Plus.plus ?_ _ | refine Plus.drew ?_ | refine Plus.drewN ?_ _))⟩
  · have b1 : (k == l) = false := by simpa using h
    have HN : Hid (decide (k = l ∧ n = m) = false) := Lib.hid (by simp [h])
    go_enter Tryz.func116, Tryz.ntmps116
    go_wp2
    go_ret
    exact ⟨by first | rfl | (rw [HN.out]; rfl), (by repeat' (first | exact Plus.refl _ | refine Plus.alloc ?_ _ | refine Plus.plus ?_ _ | refine Plus.drew ?_ | refine Plus.drewN ?_ _))⟩
end Go.Proofs.YtgljfgkkolfnbaaGreatDoor

namespace Go.Proofs.YtgljfgkkolfnbaaGreatDoor
open Go.RowKit


def AsRel (zs : List Nat) (W : World) (s1 s2 : Value) (wr : World) : Prop :=
  ∃ k : Nat, k ≤ zs.length ∧ s2 = .int .i64 k ∧ wr.ownsRow W.heap.size 83 1 s1 (zs.take k).length (vals .u16 (zs.take k)) ∧ Below W.heap.size W wr
set_option maxRecDepth 100000 in
set_option maxHeartbeats 4000000 in
theorem refAscii_h (s : ByteArray) (hs : s.size ≤ 1048576) (w : World) : Calls Tryz.prog 67 #[.string s] w fun e w' => ∃ v, e = .returned v ∧ w'.ownsRow w.heap.size 83 1 v (nats s).length (vals .u16 (nats s)) ∧ Plus w w' := by
  obtain ⟨i0, hi, hz0, hz1, hz2⟩ := info_parts infoU16
  go_enter Tryz.func67, Tryz.ntmps67
  go_wp2_with fail
  go_loopw [3, 4] (AsRel (nats s) w) (fun _ s4 _ => ((s.size : Int) - intOf s4).toNat)
  case atStart => exact ⟨0, by omega, rfl, World.ownsRow_nil _ _ _ _, Below.refl _ _⟩
  case round =>
    obtain ⟨k, hk, rfl, hown, hB⟩ := hrel
    obtain ⟨z0, rfl⟩ := Plus.of_below hB
    have HL := Lib.hid (nats_len s)
    rw [HL.out] at hk
    have HW := Lib.hid hown
    have htl : ((nats s).take k).length ≤ 1048576 := by rw [List.length_take, HL.out]; omega
    clear hown
    by_cases hlt : k < s.size
    · have HG := Lib.hid (nats_get s k hlt)
      have hb := s[k].toNat_lt
      go_wp2_with (at_builtin; refine wpList_append_own _ rfl _ _ 27 rfl w.heap.size 83 i0 (.int .u16 0) 1 2 Tryz.underlying27 hi hz0 hz1 hz2 rfl (by decide) _ _ _ rfl (own_alloc HW.out _) ⟨w.heap.size + z0.blocks.length, 0, none⟩ 1 1 [.int .u16 (s[k].toNat : Int)] rfl rfl (news_at' _ _ _ _ (by simp [size_plus])) (one_u16 [s[k].toNat]) (by unfold maxLen; omega) (by omega) (by simp [size_plus]; omega) ?_; intro v1 w1 hown1 hgr1 _; have HW2 := Lib.hid hown1; have HG2 := Lib.hid hgr1; clear hown1 hgr1)
      go_roundw
      case rel =>
        refine ⟨k + 1, by rw [HL.out]; omega, by rw [show ((k + 1 : Nat) : Int) = (k : Int) + 1 by omega], ?_, below_own HW.out HG2.out hB (by simp [size_plus])⟩
        have e : (nats s).take (k + 1) = (nats s).take k ++ [s[k].toNat] := by
          rw [List.take_add_one, List.getElem?_eq_getElem (by rw [HL.out]; exact hlt)]
          have q := HG.out
          rw [List.getD_eq_getElem?_getD, List.getElem?_eq_getElem (by rw [HL.out]; exact hlt)] at q
          simp at q
          simp [q]
        rw [e, List.length_append, vals_app]
        exact HW2.out
      case measure => simp [intOf]; omega
    · obtain rfl : k = s.size := by omega
      go_wp2_with fail
      go_returns
      refine ⟨_, rfl, ?_, Plus.of_below hB⟩
      have q := HW.out
      rw [← HL.out, List.take_length] at q
      exact q
theorem refAscii_n (s : ByteArray) (hs : s.size ≤ 1048576) (xs : List Nat) (n : Nat) (hx : Hid (nats s = xs ∧ n = xs.length)) (w : World) : Calls Tryz.prog 67 #[.string s] w fun e w' => ∃ (A : Option Addr) (c : Nat), e = .returned (.slice A n c) ∧ Ar .u16 65536 w' A xs n c ∧ Plus w w' := by
  refine (refAscii_h s hs w).mono ?_
  rintro e w' ⟨v, rfl, q, q4⟩
  obtain ⟨rfl, rfl⟩ := hx.out
  obtain ⟨A, c, rfl, q1, q2, q3⟩ := rd_of_own q
  exact ⟨A, c, rfl, ⟨q3, rfl, q1, q2, nats_U s⟩, q4⟩
end Go.Proofs.YtgljfgkkolfnbaaGreatDoor
