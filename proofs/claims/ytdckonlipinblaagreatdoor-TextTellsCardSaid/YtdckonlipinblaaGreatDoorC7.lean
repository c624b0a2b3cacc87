/- Contracts: Units. -/
import Derived.Test.YtdckonlipinblaaGreatDoorC6
namespace Go.Proofs.YtdckonlipinblaaGreatDoor
open Go.RowKit


theorem byts_get {l : List Nat} (hl : isB l) (j : Nat) : ((byts l).get! j).toNat = l.getD j 0 := by
  show ((l.map Nat.toUInt8).toArray[j]!).toNat = _
  rw [List.getD_eq_getElem?_getD]
  by_cases h : j < l.length
  · have h2 : j < (l.map Nat.toUInt8).toArray.size := by simpa using h
    rw [getElem!_pos _ j h2, List.getElem?_eq_getElem h]
    simp only [List.getElem_toArray, List.getElem_map, Option.getD_some]
    exact toNat_u8 (hl _ (List.getElem_mem h))
  · have h2 : ¬ j < (l.map Nat.toUInt8).toArray.size := by simpa using h
    rw [getElem!_neg _ j h2, List.getElem?_eq_none (by omega)]
    rfl
theorem go_hd {l : List Nat} (hl : isB l) (h0 : l ≠ []) : Lib.decodeGo (byts l) = hd l := by
  unfold Lib.decodeGo
  have hp : 0 < l.length := List.length_pos_iff.2 h0
  rw [byts_size, if_neg (by omega), Lib.decode_at, byts_size, byts_get hl, byts_get hl, byts_get hl, byts_get hl]
  rfl
theorem decode_c (g o c : Nat) (l : List Nat) (w : World) (hL : Lai w) (h : At .u8 w g o l) (hl : isB l) (h0 : l ≠ []) (n : Nat) (hn : n = l.length) (v k : Nat) (hd' : Hid (hd l = (v, k))) :
    Calls Tryz.prog 35 #[.slice (some ⟨g, o, none⟩) n c] w fun e w' => e = .returned (.tuple #[.int .i32 (v : Int), .int .i64 (k : Int)]) ∧ Plus w w' := by
  have q := Any7.utf8_DecodeRune Tryz.lays7_32 (byts l) g o c w hL.utf (fun j hj => by
    rw [byts_size] at hj
    rw [byts_get hl]
    exact h j hj)
  rw [byts_size, ← hn] at q
  refine q.mono ?_
  rintro e w' ⟨rfl, hb⟩
  rw [go_hd hl h0, hd'.out]
  exact ⟨rfl, Plus.of_below hb⟩
theorem own_plus {w w' : World} {B e z n : Nat} {v : Value} {l : List Value} (h : w.ownsRow B e z v n l) (hp : Plus w w') : w'.ownsRow B e z v n l := by
  refine ⟨h.1, ?_⟩
  rcases h.2 with hh | ⟨g, cap, cur, hv, hb, hg, r⟩
  · exact .inl hh
  · refine .inr ⟨g, cap, cur, hv, hb, ?_, r⟩
    rw [hp.below.block g (Array.getElem?_eq_some_iff.1 hg).1]
    exact hg
theorem own_alloc {w : World} {B e z n : Nat} {v : Value} {l : List Value} (h : w.ownsRow B e z v n l) (o : Obj) : (w.alloc o).ownsRow B e z v n l := own_plus h (Plus.of_below ((Below.refl _ _).alloc (Nat.le_refl _) o))
theorem news_at (w : World) (us : List Value) (t : TypeId) : ∀ j v, us[j]? = some v → (w.alloc (.cells us.toArray t)).cell? ((⟨w.heap.size, 0, none⟩ : Addr).add j) = some v := fun j v h => by
  rw [zero_add_addr, World.cell?_alloc_at _ _ _ _ rfl]
  simpa using h
theorem news_at' (w : World) (us : List Value) (t : TypeId) (g : Nat) (hg : g = w.heap.size) : ∀ j v, us[j]? = some v → (w.alloc (.cells us.toArray t)).cell? ((⟨g, 0, none⟩ : Addr).add j) = some v := by
  subst hg
  exact news_at w us t
theorem one_u16 (xs : List Nat) : ∀ u ∈ vals .u16 xs, u.oneCell' = true := fun u h => by
  obtain ⟨x, _, rfl⟩ := List.mem_map.1 h
  rfl
theorem below_own {w wr w1 : World} {B e z n : Nat} {v : Value} {l : List Value} {o : Obj} (h : wr.ownsRow B e z v n l) (hg : (wr.alloc o).grownBy w1 v.ownBlock) (hB : Below B w wr) (hs : B ≤ wr.heap.size) : Below B w w1 := by
  refine (hB.alloc hs o).grown hg (by rw [World.size_alloc]; omega) (fun j hj => ?_)
  rcases h.2 with ⟨rfl, _⟩ | ⟨g, cap, cur, rfl, hbg, _⟩
  · cases hj
  · injection hj with hj
    subst hj
    exact hbg
theorem uts_two {v : Nat} (h : 65536 ≤ v) : uts v = [55296 + (v - 65536) / 1024, 56320 + (v - 65536) % 1024] := by unfold uts; rw [if_neg (by omega)]
/-- What Units answers: units, a place, an error. -/
def UniP (L : List Nat) (at_ er : Nat) (w : World) (e : Ending) (w' : World) : Prop :=
  ∃ (C : Option Addr) (d : Nat), e = .returned (.tuple #[.slice C L.length d, .int .i64 at_, .int .i64 er]) ∧ L.length ≤ d ∧ d ≤ 9223372036854775807 ∧ Rd .u16 w' C L ∧ Plus w w'
/-- The first k bytes are read; their units are laid. -/
def UniRel (xs : List Nat) (w : World) (s5 s6 : Value) (wr : World) : Prop :=
  ∃ (k : Nat) (us : List Nat), k ≤ xs.length ∧ s6 = .int .i64 k ∧ wr.ownsRow w.heap.size 40 1 s5 us.length (vals .u16 us) ∧ us.length ≤ k ∧ deu xs = (us ++ (deu (xs.drop k)).1, k + (deu (xs.drop k)).2.1, (deu (xs.drop k)).2.2) ∧ Below w.heap.size w wr
theorem units_long (A : Option Addr) (n c : Nat) (w : World) (hl : 4096 < n) : Calls Tryz.prog 18 #[.slice A n c] w (UniP [] 0 3 w) := by
  have d1 : decide ((n : Int) > 4096) = true := by simp; omega
  have d2 : decide ((4096 : Int) < n) = true := by simp; omega
  go_enter Tryz.func18, Tryz.ntmps18
  go_wp2
  go_step3
  go_wp2
  first | rw [Exit.noGoto_ret] | skip
  go_returns
  exact ⟨none, 0, rfl, Nat.le_refl _, by omega, Rd.nil, Plus.refl _⟩
set_option maxRecDepth 100000 in
set_option maxHeartbeats 4000000 in
theorem units_h (A : Option Addr) (xs : List Nat) (n c : Nat) (w : World) (hL : Hid (Lai w)) (h : Ar .u8 256 w A xs n c) (hl : n ≤ 4096) (L : List Nat) (at_ er : Nat)
    (hy : Hid ((deu xs).2.2 = true → L = (deu xs).1 ∧ at_ = 0 ∧ er = 0)) (hn : Hid ((deu xs).2.2 = false → L = [] ∧ at_ = (deu xs).2.1 ∧ er = 2)) :
    Calls Tryz.prog 18 #[.slice A n c] w (UniP L at_ er w) := by
  obtain ⟨hrd, hlen, hcap, hmax, hbd⟩ := h
  subst hlen
  obtain ⟨i0, hi, hz0, hz1, hz2⟩ := info_parts infoU16
  have hmk := mk_row0 22 40 .u16 2 Tryz.underlying22 infoU16 xs.length (by omega) (by omega) w
  have HOwn := Lib.hid (made_own .u16 w 40 xs.length (by omega))
  go_enter Tryz.func18, Tryz.ntmps18
  go_wp2
  go_step3
  go_wp2
  go_step3
  go_wp2
  clear hmk
  go_loopw [5, 6] (UniRel xs w) (fun _ s6 _ => ((xs.length : Int) - intOf s6).toNat)
  case atStart => exact ⟨0, [], by omega, rfl, HOwn.out, by simp, by simp, (Below.refl _ _).alloc (Nat.le_refl _) _⟩
  case round =>
    obtain ⟨k, us, hk, rfl, hown, hul, he, hB⟩ := hrel
    obtain ⟨x0, rfl⟩ := Plus.of_below hB
    by_cases hlt : k < xs.length
    · obtain ⟨g, o, rfl, hg, hat⟩ := hrd.at_ hlt
      have hdl : (xs.drop k).length = xs.length - k := List.length_drop
      have hne : xs.drop k ≠ [] := fun q => by rw [q] at hdl; simp at hdl; omega
      have hbl : isB (xs.drop k) := isB_drop hbd k
      obtain ⟨v, m, hvm⟩ : ∃ v m, hd (xs.drop k) = (v, m) := ⟨_, _, rfl⟩
      have HD := Lib.hid (decode_c g (o + k) (c - k) (xs.drop k) (plus w x0) (hL.out.plus (Plus.is x0)) ((hat.plus hg (Plus.is x0)).drop k) hbl hne (xs.length - k) hdl.symm v m (Lib.hid hvm))
      have m1 := hd_pos (xs.drop k)
      have m4 := hd_le4 (xs.drop k)
      have mle := hd_le (xs.drop k) hne
      rw [hvm] at m1 m4 mle
      dsimp only at m1 m4 mle
      rw [hdl] at mle
      have hnat : ((xs.length : Int) - (k : Int)) = ((xs.length - k : Nat) : Int) := by omega
      have HW := Lib.hid hown
      have HE := Lib.hid he
      have HAT := Lib.hid hat
      have HNE := Lib.hid hne
      have HBL := Lib.hid hbl
      clear hown he hat hne hbl hdl hnat
      cases hbad : bad (xs.drop k)
      · obtain ⟨ok, _, _⟩ := bts_hd HBL.out HNE.out hbad
        have hdeu := deu_ok HNE.out hbad
        rw [hvm] at ok hdeu
        dsimp only at ok hdeu
        rw [List.drop_drop] at hdeu
        have hbd2 : v ≤ 1114111 := by unfold okV at ok; omega
        have hbad2 : v ≠ 65533 ∨ m ≠ 1 := by
          unfold bad at hbad
          rw [hvm] at hbad
          simp at hbad
          omega
        have HU := Lib.hid hdeu
        have HV := Lib.hid hvm
        have HB := Lib.hid hbad
        clear hdeu hvm hbad ok
        have h3 : (v < 65536 ∧ ((((v : Int) == 65533) = false) ∨ (((v : Int) == 65533) = true ∧ ((m : Int) == 1) = false))) ∨ (65536 ≤ v ∧ ((v : Int) == 65533) = false) := by
          by_cases q : v < 65536
          · left
            refine ⟨q, ?_⟩
            by_cases q2 : v = 65533
            · right
              constructor
              · simp; omega
              · simp; omega
            · left
              simp; omega
          · right
            refine ⟨by omega, by simp; omega⟩
        clear hbad2
        obtain ⟨z, hz⟩ : ∃ z : Int, z = v := ⟨_, rfl⟩
        rw [← hz] at HD h3
        have HZ := Lib.hid hz
        rcases h3 with ⟨hv, h4⟩ | ⟨hv, b1⟩
        · have d1 : decide (z < 65536) = true := by simp; omega
          have ev : IntKind.u16.wrap z = z := by rw [IntKind.wrap_u16]; omega
          clear hz
          have HV2 := Lib.hid hv
          have HBD := Lib.hid hbd2
          clear hv hbd2
          rcases h4 with b1 | ⟨b1, b2⟩
          all_goals
            go_wp2_with (first
              | (go_at_call 35; refine HD.out.mono ?_; rintro e w1 ⟨rfl, ⟨x1, rfl⟩⟩; have HW1 := Lib.hid (own_plus HW.out (Plus.is x1)))
              | (at_builtin; refine wpList_append_own _ rfl _ _ 22 rfl w.heap.size 40 i0 (.int .u16 0) 1 2 Tryz.underlying22 hi hz0 hz1 hz2 rfl (by decide) _ _ _ rfl (own_alloc HW1.out _) ⟨w.heap.size + x0.blocks.length + x1.blocks.length, 0, none⟩ 1 1 [.int .u16 z] rfl rfl (news_at' _ _ _ _ (by rw [size_plus, size_plus])) (by rw [HZ.out]; exact one_u16 [v]) (by unfold maxLen; omega) (by omega) (by rw [World.size_alloc, size_plus, size_plus]; omega) ?_; intro v1 w1 hown1 hgr1 _; have HW2 := Lib.hid hown1; have HG2 := Lib.hid hgr1; clear hown1 hgr1))
            go_roundw
            case rel =>
              refine ⟨k + m, us ++ [v], by omega, by rw [show ((k + m : Nat) : Int) = (k : Int) + m by omega], ?_, by rw [List.length_append]; simp; omega, ?_, below_own HW1.out HG2.out ((hB.trans ((Plus.is x1).below.mono (by rw [size_plus]; omega)))) (by rw [size_plus, size_plus]; omega)⟩
              · rw [List.length_append, vals_app]
                have q := HW2.out
                rw [HZ.out] at q
                exact q
              · rw [HE.out, HU.out, uts_plain HV2.out]
                simp [List.append_assoc, Nat.add_assoc]
            case measure => simp [intOf]; omega
        · have d1 : decide (z < 65536) = false := by simp; omega
          have hu := uts_two hv
          obtain ⟨a, ha⟩ : ∃ a : Int, a = ((55296 + (v - 65536) / 1024 : Nat) : Int) := ⟨_, rfl⟩
          obtain ⟨b, hb⟩ : ∃ b : Int, b = ((56320 + (v - 65536) % 1024 : Nat) : Int) := ⟨_, rfl⟩
          have HSp : Hid (∀ W, Calls Tryz.prog 36 #[.int .i32 z] W fun e w' => e = .returned (.tuple #[.int .u16 a, .int .u16 b]) ∧ W = w') := Lib.hid (fun W => by rw [hz, ha, hb]; exact split_c v hv hbd2 W)
          have HAB := Lib.hid (And.intro ha hb)
          have HUT := Lib.hid hu
          have HV2 := Lib.hid hv
          have HBD := Lib.hid hbd2
          clear hz ha hb hu hv hbd2
          go_wp2_with (first
            | (go_at_call 35; refine HD.out.mono ?_; rintro e w1 ⟨rfl, ⟨x1, rfl⟩⟩; have HW1 := Lib.hid (own_plus HW.out (Plus.is x1)))
            | (go_at_call 36; refine (HSp.out _).mono ?_; rintro e w1 ⟨rfl, rfl⟩)
            | (at_builtin; refine wpList_append_own _ rfl _ _ 22 rfl w.heap.size 40 i0 (.int .u16 0) 1 2 Tryz.underlying22 hi hz0 hz1 hz2 rfl (by decide) _ _ _ rfl (own_alloc HW1.out _) ⟨w.heap.size + x0.blocks.length + x1.blocks.length, 0, none⟩ 2 2 [.int .u16 a, .int .u16 b] rfl rfl (news_at' _ _ _ _ (by rw [size_plus, size_plus])) (by rw [HAB.out.1, HAB.out.2]; exact one_u16 [55296 + (v - 65536) / 1024, 56320 + (v - 65536) % 1024]) (by unfold maxLen; omega) (by omega) (by rw [World.size_alloc, size_plus, size_plus]; omega) ?_; intro v1 w1 hown1 hgr1 _; have HW2 := Lib.hid hown1; have HG2 := Lib.hid hgr1; clear hown1 hgr1))
          go_roundw
          case rel =>
            have hm4 : 4 ≤ m := by
              obtain ⟨_, hml, _⟩ := bts_hd HBL.out HNE.out HB.out
              rw [HV.out] at hml
              dsimp only at hml
              rw [← hml, bts_len, if_neg (by have := HV2.out; omega), if_neg (by have := HV2.out; omega), if_neg (by have := HV2.out; omega)]
              exact Nat.le_refl _
            refine ⟨k + m, us ++ [55296 + (v - 65536) / 1024, 56320 + (v - 65536) % 1024], by omega, by rw [show ((k + m : Nat) : Int) = (k : Int) + m by omega], ?_, by rw [List.length_append]; simp; omega, ?_, below_own HW1.out HG2.out ((hB.trans ((Plus.is x1).below.mono (by rw [size_plus]; omega)))) (by rw [size_plus, size_plus]; omega)⟩
            · rw [List.length_append, vals_app]
              have q := HW2.out
              rw [HAB.out.1, HAB.out.2] at q
              exact q
            · rw [HE.out, HU.out, HUT.out]
              simp [List.append_assoc, Nat.add_assoc]
          case measure => simp [intOf]; omega
      · have hb : v = 65533 ∧ m = 1 := by
          unfold bad at hbad
          rw [hvm] at hbad
          simpa using hbad
        obtain ⟨rfl, rfl⟩ := hb
        have hdeu := deu_bad HNE.out hbad
        have hxs : deu xs = (us, k, false) := by rw [HE.out, hdeu]; simp
        obtain ⟨rfl, e1, rfl⟩ := hn.out (by rw [hxs])
        rw [hxs] at e1
        dsimp only at e1
        subst e1
        clear hdeu hxs hvm hbad
        go_wp2_with (first
          | (go_at_call 35; refine HD.out.mono ?_; rintro e w1 ⟨rfl, ⟨x1, rfl⟩⟩))
        first | rw [Exit.noGoto_ret] | skip
        go_returns
        exact ⟨none, 0, rfl, Nat.le_refl _, by omega, Rd.nil, by repeat' (first | exact Plus.refl _ | refine Plus.alloc ?_ _ | refine Plus.plus ?_ _ | refine Plus.drew ?_ | refine Plus.drewN ?_ _)⟩
    · obtain rfl : k = xs.length := by omega
      have hxs : deu xs = (us, xs.length, true) := by rw [he, drop_end (Nat.le_refl _), deu_nil]; simp
      obtain ⟨e0, rfl, rfl⟩ := hy.out (by rw [hxs])
      rw [hxs] at e0
      dsimp only at e0
      subst e0
      obtain ⟨C, d, rfl, q1, q2, q3⟩ := rd_of_own hown
      have Q3 := Lib.hid q3
      clear hown he hxs q3
      go_wp2_with fail
      first | rw [Exit.noGoto_ret] | skip
      go_returns
      exact ⟨C, d, rfl, q1, q2, Q3.out, Plus.is x0⟩
end Go.Proofs.YtdckonlipinblaaGreatDoor
