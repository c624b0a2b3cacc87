/- Contract: the document's own Units. -/
import Derived.IntWalk
import Derived.Test.YtlbjjkiflcjkgaaDoorS4
namespace Go.Proofs.YtlbjjkiflcjkgaaDoor
open Go.RowKit


theorem sign_n {A : Option Addr} {xs l : List Nat} {n c k : Nat} {K V : Int} (h : Hid (l = xs.drop k ∧ K = (sgnK3 l : Nat) ∧ V = (sgnV3 l : Nat))) (w : World) (ha : Ar .u8 256 w A xs n c) (hn : n ≤ 5000) (hk : k < n) :
    Calls Tryd.prog 32 #[.slice A n c, .int .i64 k] w fun e w' => e = .returned (.tuple #[.int .i64 K, .int .i64 V]) ∧ w = w' := by
  obtain ⟨rfl, rfl, rfl⟩ := h.out
  exact sign_c A xs n c k w ha hn hk
theorem refLong (A : Option Addr) (n c : Nat) (w : World) (hl : 4096 < n) : Calls Tryd.prog 16 #[.slice A n c] w (UniP [] 0 3 w) := by
  have d1 : decide ((n : Int) > 4096) = true := by simp; omega
  have d2 : decide ((4096 : Int) < n) = true := by simp; omega
  go_enter Tryd.func16, Tryd.ntmps16
  go_wp2
  go_returns
  exact ⟨none, 0, rfl, Nat.le_refl _, by omega, Rd.nil, Plus.refl _⟩
set_option maxRecDepth 100000 in
set_option maxHeartbeats 4000000 in
theorem ref_units_h (A : Option Addr) (xs : List Nat) (n c : Nat) (w : World) (h : Hid (Ar .u8 256 w A xs n c)) (hl : n ≤ 4096) (hnx : Hid (n = xs.length)) (L : List Nat) (at_ er : Nat)
    (hy : Hid ((deu xs).2.2 = true → L = (deu xs).1 ∧ at_ = 0 ∧ er = 0)) (hn : Hid ((deu xs).2.2 = false → L = [] ∧ at_ = (deu xs).2.1 ∧ er = 2)) :
    Calls Tryd.prog 16 #[.slice A n c] w (UniP L at_ er w) := by
  obtain ⟨i0, hi, hz0, hz1, hz2⟩ := info_parts infoU16
  go_enter Tryd.func16, Tryd.ntmps16
  go_wp2
  go_loopw [5, 6] (UniRel xs w) (fun _ s6 _ => ((n : Int) - intOf s6).toNat)
  case atStart => exact ⟨0, [], by omega, rfl, World.ownsRow_nil _ _ _ _, by simp, by simp, Below.refl _ _⟩
  case round =>
    obtain ⟨k, us, hk, rfl, hown, hul, he, hB⟩ := hrel
    obtain ⟨x0, rfl⟩ := Plus.of_below hB
    rw [← hnx.out] at hk
    by_cases hlt : k < n
    · have hdl : (xs.drop k).length = n - k := by rw [List.length_drop, hnx.out]
      have hne : xs.drop k ≠ [] := fun q => by rw [q] at hdl; simp at hdl; omega
      have hbl : isB (xs.drop k) := isB_drop h.out.bd k
      obtain ⟨v, m, hvm⟩ : ∃ v m, hd (xs.drop k) = (v, m) := ⟨_, _, rfl⟩
      have m1 := hd_pos (xs.drop k)
      have m4 := hd_le4 (xs.drop k)
      have mle := hd_le (xs.drop k) hne
      rw [hvm] at m1 m4 mle
      dsimp only at m1 m4 mle
      rw [hdl] at mle
      have HW := Lib.hid hown
      have HE := Lib.hid he
      have HNE := Lib.hid hne
      have HBL := Lib.hid hbl
      clear hown he hne hbl hdl
      cases hbad : bad (xs.drop k)
      · obtain ⟨ok, _, _⟩ := bts_hd HBL.out HNE.out hbad
        have hdeu := deu_ok HNE.out hbad
        rw [hvm] at ok hdeu
        dsimp only at ok hdeu
        rw [List.drop_drop] at hdeu
        have hbd2 : v ≤ 1114111 := by unfold okV at ok; omega
        obtain ⟨z, hz⟩ : ∃ z : Int, z = v := ⟨_, rfl⟩
        have HS : Hid (xs.drop k = xs.drop k ∧ (m : Int) = (sgnK3 (xs.drop k) : Nat) ∧ z = (sgnV3 (xs.drop k) : Nat)) := Lib.hid ⟨rfl, by unfold sgnK3; rw [hbad, hvm]; rfl, by unfold sgnV3; rw [hbad, hvm, hz]; rfl⟩
        have HU := Lib.hid hdeu
        have HV := Lib.hid hvm
        have HB := Lib.hid hbad
        have HZ := Lib.hid hz
        have b0 : ((m : Int) == 0) = false := by simp; omega
        have z0 : 0 ≤ z := by omega
        have z1 : z ≤ 1114111 := by omega
        have hv3 : v < 65536 ∨ 65536 ≤ v := by omega
        clear hdeu hvm hbad ok
        rcases hv3 with hv | hv
        · have hzl : z < 65536 := by omega
          have ev : IntKind.u16.wrap z = z := by rw [IntKind.wrap_u16]; omega
          have HV2 := Lib.hid hv
          clear hz hv hbd2
          go_wp2_with (first
            | (go_at_call 32; refine (sign_n HS _ (h.out.plus (by repeat' (first | exact Plus.refl _ | refine Plus.alloc ?_ _ | refine Plus.plus ?_ _ | refine Plus.drew ?_ | refine Plus.drewN ?_ _))) (by omega) (by omega)).mono ?_; rintro e w1 ⟨rfl, rfl⟩)
            | (at_builtin; refine wpList_append_own _ rfl _ _ 23 rfl w.heap.size 35 i0 (.int .u16 0) 1 2 Tryd.underlying23 hi hz0 hz1 hz2 rfl (by decide) _ _ _ rfl (own_alloc HW.out _) ⟨w.heap.size + x0.blocks.length, 0, none⟩ 1 1 [.int .u16 z] rfl rfl (news_at' _ _ _ _ (by rw [size_plus])) (by rw [HZ.out]; exact one_u16 [v]) (by unfold maxLen; omega) (by omega) (by rw [World.size_alloc, size_plus]; omega) ?_; intro v1 w1 hown1 hgr1 _; have HW2 := Lib.hid hown1; have HG2 := Lib.hid hgr1; clear hown1 hgr1))
          go_roundw
          case rel =>
            refine ⟨k + m, us ++ [v], by have := hnx.out; omega, by rw [show ((k + m : Nat) : Int) = (k : Int) + m by omega], ?_, by rw [List.length_append]; simp; omega, ?_, below_own HW.out HG2.out hB (by rw [size_plus]; omega)⟩
            · rw [List.length_append, vals_app]
              have q := HW2.out
              rw [HZ.out] at q
              exact q
            · rw [HE.out, HU.out, uts_plain HV2.out]
              simp [List.append_assoc, Nat.add_assoc]
          case measure => simp [intOf]; omega
        · have hzl : 65536 ≤ z := by omega
          obtain ⟨a, ha⟩ : ∃ a : Int, a = 55296 + (z - 65536) / 1024 := ⟨_, rfl⟩
          obtain ⟨b, hb⟩ : ∃ b : Int, b = 56320 + (z - 65536) % 1024 := ⟨_, rfl⟩
          have ea : IntKind.u16.wrap (55296 + (z - 65536) / 1024) = a := by rw [IntKind.wrap_u16, ha]; omega
          have eb : IntKind.u16.wrap (56320 + (z - 65536) % 1024) = b := by rw [IntKind.wrap_u16, hb]; omega
          have HAB : Hid (a = ((55296 + (v - 65536) / 1024 : Nat) : Int) ∧ b = ((56320 + (v - 65536) % 1024 : Nat) : Int)) := Lib.hid ⟨by rw [ha, hz]; omega, by rw [hb, hz]; omega⟩
          have HUT := Lib.hid (uts_two hv)
          have HV2 := Lib.hid hv
          clear hz ha hb hv hbd2
          go_wp2_with (first
            | (go_at_call 32; refine (sign_n HS _ (h.out.plus (by repeat' (first | exact Plus.refl _ | refine Plus.alloc ?_ _ | refine Plus.plus ?_ _ | refine Plus.drew ?_ | refine Plus.drewN ?_ _))) (by omega) (by omega)).mono ?_; rintro e w1 ⟨rfl, rfl⟩)
            | (at_builtin; refine wpList_append_own _ rfl _ _ 23 rfl w.heap.size 35 i0 (.int .u16 0) 1 2 Tryd.underlying23 hi hz0 hz1 hz2 rfl (by decide) _ _ _ rfl (own_alloc HW.out _) ⟨w.heap.size + x0.blocks.length, 0, none⟩ 2 2 [.int .u16 a, .int .u16 b] rfl rfl (news_at' _ _ _ _ (by rw [size_plus])) (by rw [HAB.out.1, HAB.out.2]; exact one_u16 [55296 + (v - 65536) / 1024, 56320 + (v - 65536) % 1024]) (by unfold maxLen; omega) (by omega) (by rw [World.size_alloc, size_plus]; omega) ?_; intro v1 w1 hown1 hgr1 _; have HW2 := Lib.hid hown1; have HG2 := Lib.hid hgr1; clear hown1 hgr1))
          go_roundw
          case rel =>
            have hm4 : 4 ≤ m := by
              obtain ⟨_, hml, _⟩ := bts_hd HBL.out HNE.out HB.out
              rw [HV.out] at hml
              dsimp only at hml
              rw [← hml, bts_len, if_neg (by have := HV2.out; omega), if_neg (by have := HV2.out; omega), if_neg (by have := HV2.out; omega)]
              exact Nat.le_refl _
            refine ⟨k + m, us ++ [55296 + (v - 65536) / 1024, 56320 + (v - 65536) % 1024], by have := hnx.out; omega, by rw [show ((k + m : Nat) : Int) = (k : Int) + m by omega], ?_, by rw [List.length_append]; simp; omega, ?_, below_own HW.out HG2.out hB (by rw [size_plus]; omega)⟩
            · rw [List.length_append, vals_app]
              have q := HW2.out
              rw [HAB.out.1, HAB.out.2] at q
              exact q
            · rw [HE.out, HU.out, HUT.out]
              simp [List.append_assoc, Nat.add_assoc]
          case measure => simp [intOf]; omega
      · have hdeu := deu_bad HNE.out hbad
        have hxs : deu xs = (us, k, false) := by rw [HE.out, hdeu]; simp
        obtain ⟨rfl, e1, rfl⟩ := hn.out (by rw [hxs])
        rw [hxs] at e1
        dsimp only at e1
        subst e1
        have HS : Hid (xs.drop at_ = xs.drop at_ ∧ (0 : Int) = (sgnK3 (xs.drop at_) : Nat) ∧ (0 : Int) = (sgnV3 (xs.drop at_) : Nat)) := Lib.hid ⟨rfl, by unfold sgnK3; rw [hbad]; rfl, by unfold sgnV3; rw [hbad]; rfl⟩
        clear hdeu hxs hvm hbad
        go_wp2_with (first
          | (go_at_call 32; refine (sign_n HS _ (h.out.plus (by repeat' (first | exact Plus.refl _ | refine Plus.alloc ?_ _ | refine Plus.plus ?_ _ | refine Plus.drew ?_ | refine Plus.drewN ?_ _))) (by omega) (by omega)).mono ?_; rintro e w1 ⟨rfl, rfl⟩))
        go_returns
        exact ⟨none, 0, rfl, Nat.le_refl _, by omega, Rd.nil, by repeat' (first | exact Plus.refl _ | refine Plus.alloc ?_ _ | refine Plus.plus ?_ _ | refine Plus.drew ?_ | refine Plus.drewN ?_ _)⟩
    · obtain rfl : k = n := by omega
      have hxs : deu xs = (us, k, true) := by rw [he, drop_end (by have := hnx.out; omega), deu_nil]; simp
      obtain ⟨e0, rfl, rfl⟩ := hy.out (by rw [hxs])
      rw [hxs] at e0
      dsimp only at e0
      subst e0
      obtain ⟨C, d, rfl, q1, q2, q3⟩ := rd_of_own hown
      have Q3 := Lib.hid q3
      clear hown he hxs q3
      go_wp2_with fail
      go_returns
      exact ⟨C, d, rfl, q1, q2, Q3.out, Plus.is x0⟩
theorem refUnits3_n {A : Option Addr} {xs L : List Nat} {n c : Nat} {at_ er : Int} (h : Hid (UnN xs L at_ er)) (w : World) (ha : Ar .u8 256 w A xs n c) :
    Calls Tryd.prog 16 #[.slice A n c] w fun e w' => ∃ (C : Option Addr) (d : Nat), e = .returned (.tuple #[.slice C L.length d, .int .i64 at_, .int .i64 er]) ∧ Ar .u16 65536 w' C L L.length d ∧ Plus w w' := by
  have hn := ha.len
  rcases h.out with ⟨h0, rfl, rfl, rfl⟩ | ⟨h0, h1, rfl, rfl, rfl⟩ | ⟨h0, h1, rfl, rfl, rfl⟩
  · refine (refLong A n c w (by omega)).mono ?_
    rintro e w' ⟨C, d, rfl, q1, q2, q3, q4⟩
    exact ⟨C, d, rfl, ⟨q3, rfl, q1, q2, fun x hx => by simp at hx⟩, q4⟩
  · refine (ref_units_h A xs n c w (Lib.hid ha) (by omega) (Lib.hid hn) (deu xs).1 0 0 (Lib.hid fun _ => ⟨rfl, rfl, rfl⟩) (Lib.hid fun q => by rw [h1] at q; cases q)).mono ?_
    rintro e w' ⟨C, d, rfl, q1, q2, q3, q4⟩
    exact ⟨C, d, rfl, ⟨q3, rfl, q1, q2, deu_U ha.bd⟩, q4⟩
  · refine (ref_units_h A xs n c w (Lib.hid ha) (by omega) (Lib.hid hn) [] (deu xs).2.1 2 (Lib.hid fun q => by rw [h1] at q; cases q) (Lib.hid fun _ => ⟨rfl, rfl, rfl⟩)).mono ?_
    rintro e w' ⟨C, d, rfl, q1, q2, q3, q4⟩
    exact ⟨C, d, rfl, ⟨q3, rfl, q1, q2, fun x hx => by simp at hx⟩, q4⟩
end Go.Proofs.YtlbjjkiflcjkgaaDoor
