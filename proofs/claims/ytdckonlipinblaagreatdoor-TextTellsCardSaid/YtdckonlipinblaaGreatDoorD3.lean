/- The document's whole, Less, Plain. -/
import Derived.IntWalk
import Derived.Test.YtdckonlipinblaaGreatDoorD2
namespace Go.Proofs.YtdckonlipinblaaGreatDoor
open Go.RowKit

theorem vals_one (k : IntKind) (xs : List Nat) : ∀ u ∈ vals k xs, u.oneCell' = true := fun u h => by
  obtain ⟨x, _, rfl⟩ := List.mem_map.1 h
  rfl
theorem conv_any {w : World} {A : Option Addr} {xs : List Nat} {c : Nat} (h : Rd .u8 w A xs) (hb : isB xs) : (convert 39 9 (.slice A xs.length c)).run Tryz.prog w = .ok (.string (byts xs)) w := by
  by_cases h0 : 0 < xs.length
  · obtain ⟨g, o, rfl, hg, hat⟩ := h h0
    exact conv_bytes g o c hat hb
  · have : xs = [] := List.eq_nil_of_length_eq_zero (by omega)
    subst this
    cases A with
    | none =>
      rw [show ([] : List Nat).length = 0 from rfl, run_convert_bytes_string w 39 9 5 none 0 c Tryz.underlying39 Tryz.underlying5 Tryz.underlying9]
      rfl
    | some ad => exact run_convert_bytes_back (P := Tryz.prog) w 39 9 5 ad c [] Tryz.underlying39 Tryz.underlying5 Tryz.underlying9 (fun j hj => absurd hj (by simp))

/-- The number of digits. -/
def vd (xs : List Nat) : Nat := xs.foldl (fun n x => 10 * n + (x - 48)) 0
theorem vd_app (xs ys : List Nat) : vd (xs ++ ys) = ys.foldl (fun n x => 10 * n + (x - 48)) (vd xs) := by unfold vd; rw [List.foldl_append]
theorem vd_take {xs : List Nat} {k : Nat} (hk : k < xs.length) : vd (xs.take (k + 1)) = 10 * vd (xs.take k) + (xs.getD k 0 - 48) := by
  rw [List.take_succ_eq_append_getElem hk, vd_app, List.getD_eq_getElem?_getD, List.getElem?_eq_getElem hk]
  rfl
set_option maxRecDepth 10000 in
theorem vd_mono : ∀ (ys : List Nat) (m n : Nat), m ≤ n → m ≤ ys.foldl (fun n x => 10 * n + (x - 48)) n
  | [], _, _, h => h
  | y :: ys, m, n, h => vd_mono ys m (10 * n + (y - 48)) (by omega)
theorem vd_ge (xs : List Nat) (k : Nat) : vd (xs.take k) ≤ vd xs := by
  conv => rhs; rw [← List.take_append_drop k xs, vd_app]
  exact vd_mono _ _ _ (Nat.le_refl _)
/-- What whole tells. -/
def whI (m : Nat) : Int := if m ≤ 9007199254740991 then m else -1
def WhRel (xs : List Nat) (s3 s4 : Value) : Prop := ∃ k m : Nat, k ≤ xs.length ∧ s4 = .int .i64 k ∧ s3 = .int .i64 m ∧ m ≤ 9007199254740991 ∧ vd (xs.take k) = m
set_option maxRecDepth 100000 in
set_option maxHeartbeats 1000000 in
theorem rwhole_c (A : Option Addr) (xs : List Nat) (n c : Nat) (w : World) (ha : Ar .u16 65536 w A xs n c) (hd : xs.all dgB = true) :
    Calls Tryz.prog 30 #[.slice A n c] w fun e w' => e = .returned (.int .i64 (whI (vd xs))) ∧ w = w' := by
  obtain ⟨hrd, hlen, hcap, hmax, hbd⟩ := ha
  subst hlen
  have HD := Lib.hid hd
  clear hd
  go_enter Tryz.func30, Tryz.ntmps30
  go_wp2
  go_loop [3, 4] (WhRel xs) (fun _ s => ((xs.length : Int) - intOf s).toNat)
  case atStart => exact ⟨0, 0, by omega, rfl, rfl, by omega, rfl⟩
  case round =>
    obtain ⟨k, m, hk, rfl, rfl, hm, he⟩ := hrel
    by_cases hlt : k < xs.length
    · obtain ⟨g, o, rfl, hg, hat⟩ := hrd.at_ hlt
      have hcell := hat k hlt
      have hadd := add_addr g o k
      have hdv : dgB (xs.getD k 0) = true := List.all_eq_true.1 HD.out _ (getD_mem hlt)
      have HT := vd_take hlt
      have HG := vd_ge xs (k + 1)
      obtain ⟨v, hv⟩ : ∃ v, xs.getD k 0 = v := ⟨_, rfl⟩
      rw [hv] at hcell hdv HT
      have h48 : 48 ≤ v ∧ v ≤ 57 := by unfold dgB at hdv; simp at hdv; omega
      obtain ⟨d, rfl⟩ : ∃ d, v = 48 + d := ⟨v - 48, by omega⟩
      have e1 : IntKind.u16.wrap (((48 + d : Nat) : Int) - 48) = (d : Int) := by rw [IntKind.wrap_u16]; omega
      have hd9 : d ≤ 9 := by omega
      have e2 : vd (xs.take (k + 1)) = 10 * m + d := by rw [HT, he]; omega
      obtain ⟨z, hz⟩ : ∃ z : Int, z = ((48 + d : Nat) : Int) := ⟨_, rfl⟩
      rw [← hz] at hcell e1
      have HV := Lib.hid hv
      have HE := Lib.hid e2
      have HGG := Lib.hid HG
      clear he hat hv HT HG e2 hdv h48 hz
      by_cases hb : 10 * m + d ≤ 9007199254740991
      · have b1 : decide (10 * (m : Int) + (d : Int) > 9007199254740991) = false := by simp; omega
        have b2 : decide ((9007199254740991 : Int) < 10 * (m : Int) + (d : Int)) = false := by simp; omega
        go_wp2
        go_round
        case rel => exact ⟨k + 1, 10 * m + d, hlt, by rw [show ((k + 1 : Nat) : Int) = (k : Int) + 1 by omega], by rw [show ((10 * m + d : Nat) : Int) = 10 * (m : Int) + (d : Int) by omega], hb, HE.out⟩
        case measure => simp [intOf]; omega
      · have b1 : decide (10 * (m : Int) + (d : Int) > 9007199254740991) = true := by simp; omega
        have b2 : decide ((9007199254740991 : Int) < 10 * (m : Int) + (d : Int)) = true := by simp; omega
        have HN : Hid (whI (vd xs) = -1) := Lib.hid (by
          unfold whI
          have := HGG.out
          rw [HE.out] at this
          rw [if_neg (by omega)])
        go_wp2
        go_ret
        exact ⟨by rw [HN.out]; rfl, rfl⟩
    · obtain rfl : k = xs.length := by omega
      rw [List.take_length] at he
      have HN : Hid (whI (vd xs) = (m : Int)) := Lib.hid (by unfold whI; rw [he, if_pos hm])
      clear he
      go_wp2
      go_ret
      exact ⟨by rw [HN.out]; rfl, rfl⟩
def LsRel (xs ys : List Nat) (s5 : Value) : Prop := ∃ k : Nat, k ≤ xs.length ∧ k ≤ ys.length ∧ s5 = .int .i64 k ∧ cmpL xs ys = cmpL (xs.drop k) (ys.drop k)
set_option maxRecDepth 100000 in
set_option maxHeartbeats 1000000 in
theorem rLess_c (A C : Option Addr) (xs ys : List Nat) (n c m d : Nat) (w : World) (ha : Ar .u16 65536 w A xs n c) (hb : Ar .u16 65536 w C ys m d) :
    Calls Tryz.prog 13 #[.slice A n c, .slice C m d] w fun e w' => e = .returned (.bool (lessL xs ys)) ∧ Plus w w' := by
  obtain ⟨hrd, hlen, hcap, hmax, hbd⟩ := ha
  obtain ⟨krd, klen, kcap, kmax, kbd⟩ := hb
  subst hlen klen
  go_enter Tryz.func13, Tryz.ntmps13
  go_wp2
  go_loopw [5] (fun s5 wr => LsRel xs ys s5 ∧ Plus w wr) (fun s5 _ => ((xs.length : Int) - intOf s5).toNat)
  case atStart => exact ⟨⟨0, by omega, by omega, rfl, rfl⟩, Plus.refl _⟩
  case round =>
    obtain ⟨⟨k, hk, hk2, rfl, he⟩, hp⟩ := hrel
    by_cases hlt : k < xs.length
    · by_cases hlt2 : k < ys.length
      · obtain ⟨g, o, rfl, hg, hat⟩ := hrd.at_ hlt
        obtain ⟨g2, o2, rfl, hg2, hat2⟩ := krd.at_ hlt2
        have hcell := hat.plus hg hp k hlt
        have hcell2 := hat2.plus hg2 hp k hlt2
        have hadd := add_addr g o k
        have hadd2 := add_addr g2 o2 k
        have HE := Lib.hid he
        have HP := Lib.hid hp
        have HA1 := Lib.hid (drop_cons hlt)
        have HA2 := Lib.hid (drop_cons hlt2)
        clear he hat hat2 hp
        obtain ⟨v, hv⟩ : ∃ v, xs.getD k 0 = v := ⟨_, rfl⟩
        obtain ⟨u, hu⟩ : ∃ u, ys.getD k 0 = u := ⟨_, rfl⟩
        rw [hv] at hcell
        rw [hu] at hcell2
        have HV := Lib.hid hv
        have HU := Lib.hid hu
        clear hv hu
        by_cases hvu : v = u
        · subst hvu
          have HR : Hid (cmpL xs ys = cmpL (xs.drop (k + 1)) (ys.drop (k + 1))) := Lib.hid (by rw [HE.out, HA1.out, HA2.out, HV.out, HU.out]; conv => lhs; unfold cmpL
                                                                                               rw [if_neg (by omega), if_neg (by omega)])
          go_wp2_with fail
          go_quiet (fail)
          go_wp2_with fail
          go_roundw
          case rel => exact ⟨⟨k + 1, hlt, hlt2, by rw [show ((k + 1 : Nat) : Int) = (k : Int) + 1 by omega], HR.out⟩, HP.out.drewN _⟩
          case measure => simp [intOf]; omega
        · have b2 : ((v : Int) != (u : Int)) = true := by simp; omega
          by_cases hl : v < u
          · have d1 : decide ((v : Int) < (u : Int)) = true := by simp; omega
            have HN : Hid (lessL xs ys = true) := Lib.hid (by unfold lessL; rw [HE.out, HA1.out, HA2.out, HV.out, HU.out]; unfold cmpL; rw [if_pos hl]; rfl)
            go_wp2_with fail
            go_quiet (fail)
            go_wp2_with fail
            go_quiet (fail)
            go_wp2_with fail
            go_ret
            exact ⟨by rw [HN.out]; rfl, (HP.out.drewN _).drewN _⟩
          · have d1 : decide ((v : Int) < (u : Int)) = false := by simp; omega
            have HN : Hid (lessL xs ys = false) := Lib.hid (by unfold lessL; rw [HE.out, HA1.out, HA2.out, HV.out, HU.out]; unfold cmpL; rw [if_neg hl, if_pos (by omega)]; rfl)
            go_wp2_with fail
            go_quiet (fail)
            go_wp2_with fail
            go_quiet (fail)
            go_wp2_with fail
            go_ret
            exact ⟨by rw [HN.out]; rfl, (HP.out.drewN _).drewN _⟩
      · obtain rfl : k = ys.length := by omega
        have HN : Hid (lessL xs ys = false) := Lib.hid (by unfold lessL; rw [he, drop_cons hlt, drop_end (Nat.le_refl _)]; rfl)
        have HP := Lib.hid hp
        have d1 : decide ((xs.length : Int) < (ys.length : Int)) = false := by simp; omega
        have d2 : decide ((ys.length : Int) < (ys.length : Int)) = false := by simp
        have d3 : decide (xs.length < ys.length) = false := by simp; omega
        clear he hp
        go_wp2_with fail
        go_ret
        exact ⟨by rw [HN.out]; rfl, HP.out⟩
    · obtain rfl : k = xs.length := by omega
      have HP := Lib.hid hp
      by_cases hlt2 : xs.length < ys.length
      · have HN : Hid (lessL xs ys = true) := Lib.hid (by unfold lessL; rw [he, drop_end (Nat.le_refl _), drop_cons hlt2]; rfl)
        have d1 : decide ((xs.length : Int) < (ys.length : Int)) = true := by simp; omega
        have d3 : decide (xs.length < ys.length) = true := by simp; omega
        have d2 : decide ((xs.length : Int) < (xs.length : Int)) = false := by simp
        clear he hp
        go_wp2_with fail
        go_ret
        exact ⟨by rw [HN.out]; rfl, HP.out⟩
      · have HN : Hid (lessL xs ys = false) := Lib.hid (by unfold lessL; rw [he, drop_end (Nat.le_refl _), drop_end (by omega)]; rfl)
        have d1 : decide ((xs.length : Int) < (ys.length : Int)) = false := by simp; omega
        have d3 : decide (xs.length < ys.length) = false := by simp; omega
        have d2 : decide ((xs.length : Int) < (xs.length : Int)) = false := by simp
        clear he hp
        go_wp2_with fail
        go_ret
        exact ⟨by rw [HN.out]; rfl, HP.out⟩
def RpRel (xs : List Nat) (W : World) (s4 s5 : Value) (wr : World) : Prop :=
  ∃ k : Nat, k ≤ xs.length ∧ s5 = .int .i64 k ∧ low (xs.take k) = true ∧ wr.ownsRow W.heap.size 5 1 s4 (xs.take k).length (vals .u8 (xs.take k)) ∧ Below W.heap.size W wr
set_option maxRecDepth 100000 in
set_option maxHeartbeats 4000000 in
theorem rPlain_c (A : Option Addr) (xs : List Nat) (n c : Nat) (w : World) (h : Ar .u16 65536 w A xs n c) (hs : n ≤ 1048576) : Calls Tryz.prog 6 #[.slice A n c] w fun e w' => e = .returned (.tuple #[.string (plS xs), .bool (low xs)]) ∧ Plus w w' := by
  obtain ⟨i0, hi, hz0, hz1, hz2⟩ := info_parts infoU8
  obtain ⟨hrd, hlen, hcap, hmax, hbd⟩ := h
  subst hlen
  go_enter Tryz.func6, Tryz.ntmps6
  go_wp2_with fail
  go_loopw [4, 5] (RpRel xs w) (fun _ s _ => ((xs.length : Int) - intOf s).toNat)
  case atStart => exact ⟨0, by omega, rfl, rfl, World.ownsRow_nil _ _ _ _, Below.refl _ _⟩
  case round =>
    obtain ⟨k, hk, rfl, hlo, hown, hB⟩ := hrel
    obtain ⟨z0, rfl⟩ := Plus.of_below hB
    have HW := Lib.hid hown
    have htl : (xs.take k).length ≤ 1048576 := by rw [List.length_take]; omega
    clear hown
    by_cases hlt : k < xs.length
    · obtain ⟨g, o, rfl, hg, hat⟩ := hrd.at_ hlt
      have hcell := hat.below hB hg k hlt
      have hadd := add_addr g o k
      haveI : Old g w := ⟨hg⟩
      have HL := Lib.hid hlo
      have HBd := Lib.hid hbd
      obtain ⟨v, hv⟩ : ∃ v, xs.getD k 0 = v := ⟨_, rfl⟩
      rw [hv] at hcell
      rw [cell?_plus w z0 g (o + k) hg] at hcell
      have HV := Lib.hid hv
      clear hat hlo hv hbd
      by_cases hvv : v < 128
      · have ev : IntKind.u8.wrap (v : Int) = v := by rw [IntKind.wrap_u8']; omega
        have d1 : decide ((v : Int) ≥ 128) = false := by simp; omega
        have d2 : decide ((128 : Int) ≤ v) = false := by simp; omega
        go_wp2_with (at_builtin; refine wpList_append_own _ rfl _ _ 39 rfl w.heap.size 5 i0 (.int .u8 0) 1 1 Tryz.underlying39 hi hz0 hz1 hz2 rfl (by decide) _ _ _ rfl (own_alloc HW.out _) ⟨w.heap.size + z0.blocks.length, 0, none⟩ 1 1 [.int .u8 (v : Int)] rfl rfl (news_at' _ _ _ _ (by simp [size_plus])) (vals_one .u8 [v]) (by unfold maxLen; omega) (by omega) (by simp [size_plus]; omega) ?_; intro v1 w1 hown1 hgr1 _; have HW2 := Lib.hid hown1; have HG2 := Lib.hid hgr1; clear hown1 hgr1)
        go_roundw
        case rel =>
          refine ⟨k + 1, hlt, by rw [show ((k + 1 : Nat) : Int) = (k : Int) + 1 by omega], low_take HL.out hlt (by rw [HV.out]; exact hvv), ?_, below_own HW.out HG2.out hB (by simp [size_plus])⟩
          have e : xs.take (k + 1) = xs.take k ++ [v] := by
            rw [List.take_succ_eq_append_getElem hlt]
            congr 1
            have q := HV.out
            rw [List.getD_eq_getElem?_getD, List.getElem?_eq_getElem hlt] at q
            simpa using q
          rw [e, List.length_append, vals_app]
          exact HW2.out
        case measure => simp [intOf]; omega
      · have d1 : decide ((v : Int) ≥ 128) = true := by simp; omega
        have d2 : decide ((128 : Int) ≤ v) = true := by simp; omega
        have HN := Lib.hid (low_not hlt (by rw [HV.out]; exact hvv))
        go_wp2_with fail
        go_returns
        refine ⟨?_, Plus.of_below hB⟩
        unfold plS
        rw [HN.out]
        rfl
    · obtain rfl : k = xs.length := by omega
      rw [List.take_length] at hlo HW
      have HL := Lib.hid hlo
      obtain ⟨C, d, rfl, q1, q2, q3⟩ := rd_of_own HW.out
      have hcv := conv_any (c := d) q3 (low_B hlo)
      clear hlo htl hB
      go_wp2_with fail
      go_returns
      refine ⟨?_, Plus.is _⟩
      unfold plS
      rw [HL.out]
      rfl
end Go.Proofs.YtdckonlipinblaaGreatDoor
