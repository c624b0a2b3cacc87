/- Contracts: Bytes. -/
import Derived.Test.YtlbjjkiflcjkgaaDoorC5
import Derived.Test.YtlbjjkiflcjkgaaDoorHd
namespace Go.Proofs.YtlbjjkiflcjkgaaDoor
open Go.RowKit


theorem info_parts {e : TypeId} {z : Value} {s b : Nat} (h : (Tryd.prog.info? e).map (fun i => (i.zero, i.size, i.bytes)) = some (some z, s, b)) : ∃ i0, Tryd.prog.info? e = some i0 ∧ i0.zero = some z ∧ i0.size = s ∧ i0.bytes = b := by
  cases q : Tryd.prog.info? e with
  | none => rw [q] at h; cases h
  | some i0 =>
    rw [q] at h
    simp only [Option.map_some, Option.some.injEq, Prod.mk.injEq] at h
    exact ⟨i0, rfl, h.1, h.2.1, h.2.2⟩
theorem rune_bts {v : Nat} (h : okV v) : Lib.runeCells (v : Int) = vals .u8 (bts v) := by
  unfold okV at h
  unfold Lib.runeCells vals bts
  by_cases h1 : v < 128
  · rw [Lib.encodeRuneZ_one (by omega) (by omega), if_pos h1]; rfl
  rw [if_neg h1]
  by_cases h2 : v < 2048
  · rw [Lib.encodeRuneZ_two (by omega) (by omega), if_pos h2]
    simp only [List.map_cons, List.map_nil]
    congr 2 <;> omega
  rw [if_neg h2]
  by_cases h3 : v < 65536
  · rw [Lib.encodeRuneZ_three (by omega), if_pos h3]
    simp only [List.map_cons, List.map_nil]
    congr 3 <;> omega
  rw [if_neg h3, Lib.encodeRuneZ_four (by omega) (by omega)]
  simp only [List.map_cons, List.map_nil]
  congr 4 <;> omega
/-- What is written so far is what the first k units are as bytes. -/
def BytRel (xs : List Nat) (w : World) (s4 s5 : Value) (wr : World) : Prop :=
  ∃ (k : Nat) (out : List Nat), k ≤ xs.length ∧ s5 = .int .i64 k ∧ wr.ownsRow w.heap.size 5 1 s4 out.length (vals .u8 out) ∧ enc xs = (enc (xs.drop k)).map (out ++ ·) ∧ isB out ∧ out.length ≤ 3 * k ∧ Below w.heap.size w wr
theorem mk_row0 (t e : TypeId) (k : IntKind) (bytes : Nat) (ht : Tryd.prog.underlying t = some (.slice e)) (hinfo : (Tryd.prog.info? e).map (fun i => (i.zero, i.size, i.bytes)) = some (some (.int k 0), 1, bytes))
    (n : Nat) (hb : bytes * n ≤ 281474976710656) (h63 : n ≤ 9223372036854775807) (w : World) :
    (Instr.makeSlice t (.int .i64 0) (.int .i64 (n : Int))).run Tryd.prog w = .ok (.slice (some ⟨w.heap.size, 0, none⟩) 0 n) (w.alloc (.cells (madeCells #[.int k 0] n) e)) := by
  obtain ⟨i0, hi, hz, hs, hbb⟩ := info_parts hinfo
  have q := run_make w t e i0 (.int k 0) ht hi hz .i64 .i64 0 (n : Int) (by omega) (by omega) (by rw [hbb]; omega) (by omega)
  rw [hs] at q
  simp only [Int.toNat_natCast, Nat.mul_one] at q
  exact q
theorem made_own (k : IntKind) (w : World) (e : TypeId) (n : Nat) (h : n ≤ 9223372036854775807) : (w.alloc (.cells (madeCells #[.int k 0] n) e)).ownsRow w.heap.size e 1 (.slice (some ⟨w.heap.size, 0, none⟩) 0 n) ([] : List Nat).length (vals k []) :=
  ⟨rfl, .inr ⟨w.heap.size, n, _, rfl, Nat.le_refl _, heap_alloc_new w _, Nat.zero_le _, h, by rw [zeros_cells]; simp, rfl⟩⟩
theorem own_drew {w : World} {B e z n : Nat} {v : Value} {l : List Value} (h : w.ownsRow B e z v n l) : w.drew.ownsRow B e z v n l := h
/-- What AppendRune adds. -/
theorem append_c {v : Nat} (hv : okV v) (B : Nat) (s : Value) (out : List Nat) (w : World) (hown : w.ownsRow B 5 1 s out.length (vals .u8 out)) (hlen : out.length ≤ 140737488355000) (hB : B ≤ w.heap.size) :
    Calls Tryd.prog 35 #[s, .int .i32 (v : Int)] w fun e w' => ∃ s', e = .returned s' ∧ w'.ownsRow B 5 1 s' (out ++ bts v).length (vals .u8 (out ++ bts v)) ∧ Below B w w' := by
  have hv' := hv
  unfold okV at hv'
  refine (Tryd.utf8_AppendRune_plain B s out.length (vals .u8 out) (v : Int) (by omega) (by omega) w hown (by omega) hB).mono ?_
  rintro e w' ⟨s', rfl, ho, o, hg⟩
  rw [rune_bts hv, vals_len, ← vals_app, ← List.length_append] at ho
  refine ⟨s', rfl, ho, ?_⟩
  have hb1 : Below B w (w.alloc o) := (Below.refl _ _).alloc hB _
  refine hb1.grown hg (by rw [World.size_alloc]; omega) (fun j hj => ?_)
  rcases hown.2 with ⟨rfl, _⟩ | ⟨g, cap, cur, rfl, hbg, _⟩
  · cases hj
  · injection hj with hj
    subst hj
    exact hbg
set_option maxRecDepth 100000 in
set_option maxHeartbeats 4000000 in
theorem bytes_c (A : Option Addr) (xs : List Nat) (n c : Nat) (w : World) (h : Ar .u16 65536 w A xs n c) (hs : n ≤ 1099511627776) (R : Option (List Nat)) (hR : Hid (enc xs = R)) :
    Calls Tryd.prog 17 #[.slice A n c] w fun e w' => ∃ (C : Option Addr) (d : Nat), e = .returned (.tuple #[.slice C (R.getD []).length d, .int .i64 (if R.isSome then 0 else 2)]) ∧ (R.getD []).length ≤ d ∧ d ≤ 9223372036854775807 ∧ Rd .u8 w' C (R.getD []) ∧ Plus w w' := by
  obtain ⟨hrd, hlen, hcap, hmax, hbd⟩ := h
  subst hlen
  have hmk := mk_row0 22 5 .u8 1 Tryd.underlying22 infoU8 xs.length (by omega) (by omega) w
  have HOwn := Lib.hid (made_own .u8 w 5 xs.length (by omega))
  go_enter Tryd.func17, Tryd.ntmps17
  go_wp2
  go_step3
  go_wp2
  go_step3
  go_wp2
  clear hmk
  go_loopw [4, 5] (BytRel xs w) (fun _ s5 _ => ((xs.length : Int) - intOf s5).toNat)
  case atStart => exact ⟨0, [], by omega, rfl, HOwn.out, by simp, fun x hx => by simp at hx, by simp, (Below.refl _ _).alloc (Nat.le_refl _) _⟩
  case round =>
    obtain ⟨k, out, hk, rfl, hown, he, hob, hol, hB⟩ := hrel
    by_cases hlt : k < xs.length
    · obtain ⟨g, o, rfl, hg, hat⟩ := hrd.at_ hlt
      have hcell := hat.below hB hg k hlt
      have hadd := add_addr g o k
      obtain ⟨v, hv⟩ : ∃ v, xs.getD k 0 = v := ⟨_, rfl⟩
      rw [hv] at hcell
      have hv2 : v < 65536 := by rw [← hv]; exact hbd _ (getD_mem hlt)
      have hd := drop_cons hlt
      rw [hv] at hd
      rw [hd] at he
      have HW := Lib.hid hown
      have HE := Lib.hid he
      have HO := Lib.hid hob
      have HAT := Lib.hid (hat.below hB hg)
      have hsz := hB.size
      clear hown he hob hat hv hd
      by_cases hpl : hiU v = false ∧ loU v = false
      · obtain ⟨p1, p2⟩ := hpl
        have HV := Lib.hid (ok_plain hv2 p1 p2)
        have P1 := Lib.hid p1
        have P2 := Lib.hid p2
        have HN := Lib.hid (enc_plain p1 p2 (xs.drop (k + 1)))
        clear p1 p2
        go_wp2_with (first
          | (go_at_call 33; refine (isHigh_c _ hv2 _).mono ?_; rintro e w1 ⟨rfl, rfl⟩; rw [P1.out])
          | (go_at_call 34; refine (isLow_c _ hv2 _).mono ?_; rintro e w1 ⟨rfl, rfl⟩; rw [P2.out])
          | (go_at_call 35; refine (append_c HV.out _ _ _ _ HW.out (by omega) (by omega)).mono ?_; rintro e w1 ⟨s', rfl, ho, hb⟩; have HW2 := Lib.hid ho; have HB2 := Lib.hid hb; clear ho hb))
        go_roundw
        case rel =>
          refine ⟨k + 1, out ++ bts v, hlt, by rw [show ((k + 1 : Nat) : Int) = (k : Int) + 1 by omega], HW2.out, ?_, isB_app HO.out (bts_B HV.out), ?_, hB.trans HB2.out⟩
          · rw [HE.out, HN.out, Option.map_map]
            congr 1
            funext z
            simp
          · have := bts_len v
            rw [List.length_append]
            (repeat' split at this) <;> omega
        case measure => simp [intOf]; omega
      · have hd1 : hiU v = true ∨ hiU v = false := by cases hiU v <;> simp
        rcases hd1 with p1 | p1
        · have P1 := Lib.hid p1
          have eb : ((k : Int) + 1 == (xs.length : Int)) = decide (k + 1 = xs.length) := by
            rw [Bool.eq_iff_iff]; simp; omega
          by_cases hlt2 : k + 1 < xs.length
          · have e1 : ((k : Int) + 1 == (xs.length : Int)) = false := by simp; omega
            have hadd2 := add_addr g o (k + 1)
            have htn : ((k : Int) + 1).toNat = k + 1 := by omega
            have hcell2 := HAT.out (k + 1) hlt2
            rw [show o + (k + 1) = o + (k + 1) from rfl] at hcell2
            obtain ⟨u, hu⟩ : ∃ u, xs.getD (k + 1) 0 = u := ⟨_, rfl⟩
            rw [hu] at hcell2
            have hu2 : u < 65536 := by rw [← hu]; exact hbd _ (getD_mem hlt2)
            have hd2 := drop_cons hlt2
            rw [hu] at hd2
            have HD2 := Lib.hid hd2
            clear hd2 hu eb
            have hd3 : loU u = true ∨ loU u = false := by cases loU u <;> simp
            rcases hd3 with p2 | p2
            · have P2 := Lib.hid p2
              have HJ := Lib.hid (ok_join p1 p2)
              have HN := Lib.hid (enc_pair p1 p2 (xs.drop (k + 2)))
              clear p1 p2 hpl
              go_upto_region 9 with (first
                | (go_at_call_of 33 (Value.int .u16 v); refine (isHigh_c _ hv2 _).mono ?_; rintro e w1 ⟨rfl, rfl⟩; rw [P1.out])
                | (go_at_call_of 34 (Value.int .u16 u); refine (isLow_c _ hu2 _).mono ?_; rintro e w1 ⟨rfl, rfl⟩; rw [P2.out]))
              have HWd := Lib.hid (own_drew HW.out)
              have hszd : w.heap.size ≤ wr.drew.heap.size := hsz
              have hlo : out.length ≤ 140737488355000 := by omega
              have hwk : IntKind.i64.wrap ((k : Int) + 1) = (k : Int) + 1 := IntWalk.i64_in _ (by omega)
              go_region_with (first
                | (go_at_call 36; (with_reducible refine (join_c _ _ P1.out P2.out _).mono ?_); rintro e w1 ⟨rfl, rfl⟩)
                | (go_at_call 35; (refine (append_c HJ.out.1 _ _ _ _ HWd.out hlo hszd).mono ?_); rintro e w1 ⟨s', rfl, ho, hb⟩; have HW2 := Lib.hid ho; have HB2 := Lib.hid hb; clear ho hb))
              all_goals
                go_wp2_with fail
                go_roundw
                case rel =>
                  refine ⟨k + 2, out ++ bts (joinV v u), hlt2, by rw [show ((k + 2 : Nat) : Int) = (k : Int) + 2 by omega], HW2.out, ?_, isB_app HO.out (bts_B HJ.out.1), ?_, hB.drew.trans HB2.out⟩
                  · rw [HE.out, HD2.out, HN.out, Option.map_map]
                    congr 1
                    funext z
                    simp
                  · have := bts_len (joinV v u)
                    rw [List.length_append]
                    (repeat' split at this) <;> omega
                case measure => simp [intOf]; omega
            · have hr : R = none := by
                rw [← hR.out, HE.out, HD2.out, enc_bad hpl (fun c' r'' e => by injection e with e1 e2; subst e1; rw [p2]; simp)]
                rfl
              subst hr
              have P2 := Lib.hid p2
              clear p1 p2 hpl
              go_wp2_with (first
                | (go_at_call_of 33 (Value.int .u16 v); refine (isHigh_c _ hv2 _).mono ?_; rintro e w1 ⟨rfl, rfl⟩; rw [P1.out])
                | (go_at_call_of 34 (Value.int .u16 u); refine (isLow_c _ hu2 _).mono ?_; rintro e w1 ⟨rfl, rfl⟩; rw [P2.out]))
              first | rw [Exit.noGoto_ret] | skip
              go_ret2
              exact ⟨none, 0, rfl, Nat.le_refl _, by omega, Rd.nil, Plus.of_below hB⟩
          · have e1 : ((k : Int) + 1 == (xs.length : Int)) = true := by simp; omega
            have hr : R = none := by
              rw [← hR.out, HE.out, drop_end (by omega), enc_bad hpl (fun c' r'' e => by cases e)]
              rfl
            subst hr
            clear p1 hpl eb
            go_wp2_with (first
              | (go_at_call_of 33 (Value.int .u16 v); refine (isHigh_c _ hv2 _).mono ?_; rintro e w1 ⟨rfl, rfl⟩; rw [P1.out]))
            first | rw [Exit.noGoto_ret] | skip
            go_ret2
            exact ⟨none, 0, rfl, Nat.le_refl _, by omega, Rd.nil, Plus.of_below hB⟩
        · have p2 : loU v = true := by
            cases q : loU v
            · exact absurd ⟨p1, q⟩ hpl
            · rfl
          have hr : R = none := by
            rw [← hR.out, HE.out, enc_bad hpl (fun c' r'' e => by rw [p1]; simp)]
            rfl
          subst hr
          have P1 := Lib.hid p1
          have P2 := Lib.hid p2
          clear p1 p2 hpl
          go_wp2_with (first
            | (go_at_call 33; refine (isHigh_c _ hv2 _).mono ?_; rintro e w1 ⟨rfl, rfl⟩; rw [P1.out])
            | (go_at_call 34; refine (isLow_c _ hv2 _).mono ?_; rintro e w1 ⟨rfl, rfl⟩; rw [P2.out]))
          first | rw [Exit.noGoto_ret] | skip
          go_ret2
          exact ⟨none, 0, rfl, Nat.le_refl _, by omega, Rd.nil, Plus.of_below hB⟩
    · obtain rfl : k = xs.length := by omega
      have hr : R = some out := by
        rw [← hR.out, he, drop_end (Nat.le_refl _)]
        show some (out ++ []) = some out
        rw [List.append_nil]
      subst hr
      have HW := Lib.hid hown
      obtain ⟨C, d, rfl, q1, q2, q3⟩ := rd_of_own hown
      have Q3 := Lib.hid q3
      clear hown he hob q3
      go_wp2_with fail
      first | rw [Exit.noGoto_ret] | skip
      go_ret2
      exact ⟨C, d, rfl, q1, q2, Q3.out, Plus.of_below hB⟩
end Go.Proofs.YtlbjjkiflcjkgaaDoor
