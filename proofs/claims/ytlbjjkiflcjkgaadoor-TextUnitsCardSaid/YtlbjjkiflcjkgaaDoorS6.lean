/- Contract: the document's own Bytes. -/
import Derived.IntWalk
import Derived.Test.YtlbjjkiflcjkgaaDoorS5
namespace Go.Proofs.YtlbjjkiflcjkgaaDoor
open Go.RowKit


/-- What Bytes answers. -/
def ByP (R : Option (List Nat)) (w : World) (e : Ending) (w' : World) : Prop :=
  ∃ (C : Option Addr) (d : Nat), e = .returned (.tuple #[.slice C (R.getD []).length d, .int .i64 (if R.isSome then 0 else 2)]) ∧ (R.getD []).length ≤ d ∧ d ≤ 9223372036854775807 ∧ Rd .u8 w' C (R.getD []) ∧ Plus w w'
theorem one_u8 (xs : List Nat) : ∀ u ∈ vals .u8 xs, u.oneCell' = true := fun u h => by
  obtain ⟨x, _, rfl⟩ := List.mem_map.1 h
  rfl
theorem BytRel.step {xs : List Nat} {w wr w1 : World} {k k' v : Nat} {out : List Nat} {s4 v1 : Value} {o : Obj} (hk : k' ≤ xs.length) (hkk : k < k') (hown : wr.ownsRow w.heap.size 5 1 s4 out.length (vals .u8 out)) (he : enc xs = (enc (xs.drop k)).map (out ++ ·)) (hob : isB out) (hol : out.length ≤ 3 * k) (hB : Below w.heap.size w wr)
    (hv : okV v) (hne : enc (xs.drop k) = (enc (xs.drop k')).map (bts v ++ ·)) (hl4 : (bts v).length ≤ 3 * (k' - k)) {m : Nat} (hm : m = (bts v).length) (h1 : w1.ownsRow w.heap.size 5 1 v1 (out.length + m) (vals .u8 out ++ vals .u8 (bts v))) (hg : (wr.alloc o).grownBy w1 s4.ownBlock) {s5 : Value} (hs : s5 = .int .i64 (k' : Nat)) : BytRel xs w v1 s5 w1 := by
  subst hm
  refine ⟨k', out ++ bts v, hk, hs, ?_, ?_, isB_app hob (bts_B hv), ?_, below_own hown hg hB hB.size⟩
  · rw [List.length_append, vals_app]; exact h1
  · rw [he, hne, Option.map_map]
    congr 1
    funext z
    simp
  · rw [List.length_append]; omega
set_option maxRecDepth 100000 in
set_option maxHeartbeats 8000000 in
theorem ref_bytes_c (A : Option Addr) (xs : List Nat) (n c : Nat) (w : World) (h : Ar .u16 65536 w A xs n c) (hs : n ≤ 1099511627776) (R : Option (List Nat)) (hR : Hid (enc xs = R)) :
    Calls Tryd.prog 18 #[.slice A n c] w (ByP R w) := by
  obtain ⟨hrd, hlen, hcap, hmax, hbd⟩ := h
  subst hlen
  obtain ⟨i0, hi, hz0, hz1, hz2⟩ := info_parts infoU8
  go_enter Tryd.func18, Tryd.ntmps18
  go_wp2
  go_loopw [4, 5] (BytRel xs w) (fun _ s5 _ => ((xs.length : Int) - intOf s5).toNat)
  case atStart => exact ⟨0, [], by omega, rfl, World.ownsRow_nil _ _ _ _, by simp, fun x hx => by simp at hx, by simp, Below.refl _ _⟩
  case round =>
    obtain ⟨k, out, hk, rfl, hown, he, hob, hol, hB⟩ := hrel
    by_cases hlt : k < xs.length
    · obtain ⟨g, o, rfl, hg, hat⟩ := hrd.at_ hlt
      have hcell := hat.below hB hg k hlt
      have hadd := add_addr g o k
      obtain ⟨v, hv⟩ : ∃ v, xs.getD k 0 = v := ⟨_, rfl⟩
      rw [hv] at hcell
      have hv2 : v < 65536 := by rw [← hv]; exact hbd _ (getD_mem hlt)
      have hd := drop_cons hlt
      rw [hv] at hd
      obtain ⟨z, hz⟩ : ∃ z : Int, z = v := ⟨_, rfl⟩
      rw [← hz] at hcell
      have z0 : 0 ≤ z := by omega
      have z1 : z < 65536 := by omega
      have HZ := Lib.hid hz
      have HV2 := Lib.hid hv2
      have HDR := Lib.hid hd
      have HW := Lib.hid hown
      have HE := Lib.hid he
      have HO := Lib.hid hob
      have HAT := Lib.hid (hat.below hB hg)
      have hsz := hB.size
      have HSW : Hid (w.heap.size ≤ (wr.alloc (.cells #[] 5)).heap.size) := Lib.hid (by rw [World.size_alloc]; omega)
      have ewz : IntKind.i64.wrap z = z := IntWalk.i64_in _ (by omega)
      clear hown he hob hat hv hd hz hv2
      have h6 : (z < 128) ∨ (128 ≤ z ∧ z < 2048) ∨ (2048 ≤ z ∧ z < 55296) ∨ (57344 ≤ z) ∨ (55296 ≤ z ∧ z < 56320) ∨ (56320 ≤ z ∧ z < 57344) := by omega
      rcases h6 with q1 | ⟨q1, q2⟩ | ⟨q1, q2⟩ | q1 | ⟨q1, q2⟩ | ⟨q1, q2⟩
      · obtain ⟨e0, he0⟩ : ∃ e0 : Int, e0 = z := ⟨_, rfl⟩
        have ew0 : IntKind.u8.wrap (z) = e0 := by rw [IntKind.wrap_u8', he0]; omega
        have HEQ : Hid (e0 = ((v : Nat) : Int)) := Lib.hid (by have := HZ.out; exact (by omega))
        clear he0
        go_wp2_with (at_builtin; refine wpList_append_own _ rfl _ _ 22 rfl w.heap.size 5 i0 (.int .u8 0) 1 1 Tryd.underlying22 hi hz0 hz1 hz2 rfl (by decide) _ _ _ rfl (own_alloc HW.out _) ⟨wr.heap.size, 0, none⟩ 1 1 [.int .u8 e0] rfl rfl (news_at _ _ _) (by intro u hu; simp at hu; subst hu; rfl) (by unfold maxLen; omega) (by omega) (by rw [World.size_alloc]; omega) ?_; intro v1 w1 hown1 hgr1 _; have HW2 := Lib.hid hown1; have HG2 := Lib.hid hgr1; clear hown1 hgr1)
        go_roundw
        case rel =>
          have hbt : bts v = [v] := by unfold bts; have := HZ.out; rw [if_pos (by omega)]
          refine BytRel.step (k := k) (k' := k + 1) (v := v) (by omega) (by omega) HW.out HE.out HO.out hol hB (by unfold okV; have := HZ.out; omega) (by rw [HDR.out]; exact enc_plain (by unfold hiU; have := HZ.out; simp; omega) (by unfold loU; have := HZ.out; simp; omega) _) (by rw [hbt]; simp) (m := 1) (by rw [hbt]; rfl) ?_ HG2.out (by rw [show ((k + 1 : Nat) : Int) = (k : Int) + 1 by omega])
          have q := HW2.out
          rw [hbt]
          have qq := HEQ.out
          rw [qq] at q
          exact q
        case measure => simp [intOf]; omega
      · obtain ⟨e0, he0⟩ : ∃ e0 : Int, e0 = 192 + z / 64 := ⟨_, rfl⟩
        have ew0 : IntKind.u8.wrap (192 + z / 64) = e0 := by rw [IntKind.wrap_u8', he0]; omega
        obtain ⟨e1, he1⟩ : ∃ e1 : Int, e1 = 128 + z % 64 := ⟨_, rfl⟩
        have ew1 : IntKind.u8.wrap (128 + z % 64) = e1 := by rw [IntKind.wrap_u8', he1]; omega
        have HEQ : Hid (e0 = ((192 + v / 64 : Nat) : Int) ∧ e1 = ((128 + v % 64 : Nat) : Int)) := Lib.hid (by have := HZ.out; refine ⟨by omega, by omega⟩)
        clear he0 he1
        go_wp2_with (at_builtin; refine wpList_append_own _ rfl _ _ 22 rfl w.heap.size 5 i0 (.int .u8 0) 1 1 Tryd.underlying22 hi hz0 hz1 hz2 rfl (by decide) _ _ _ rfl (own_alloc HW.out _) ⟨wr.heap.size, 0, none⟩ 2 2 [.int .u8 e0, .int .u8 e1] rfl rfl (news_at _ _ _) (by intro u hu; simp at hu; rcases hu with rfl | rfl <;> rfl) (by unfold maxLen; omega) (by omega) (by rw [World.size_alloc]; omega) ?_; intro v1 w1 hown1 hgr1 _; have HW2 := Lib.hid hown1; have HG2 := Lib.hid hgr1; clear hown1 hgr1)
        go_roundw
        case rel =>
          have hbt : bts v = [192 + v / 64, 128 + v % 64] := by unfold bts; have := HZ.out; rw [if_neg (by omega), if_pos (by omega)]
          refine BytRel.step (k := k) (k' := k + 1) (v := v) (by omega) (by omega) HW.out HE.out HO.out hol hB (by unfold okV; have := HZ.out; omega) (by rw [HDR.out]; exact enc_plain (by unfold hiU; have := HZ.out; simp; omega) (by unfold loU; have := HZ.out; simp; omega) _) (by rw [hbt]; simp) (m := 2) (by rw [hbt]; rfl) ?_ HG2.out (by rw [show ((k + 1 : Nat) : Int) = (k : Int) + 1 by omega])
          have q := HW2.out
          rw [hbt]
          have qq := HEQ.out
          rw [qq.1, qq.2] at q
          exact q
        case measure => simp [intOf]; omega
      · obtain ⟨e0, he0⟩ : ∃ e0 : Int, e0 = 224 + z / 4096 := ⟨_, rfl⟩
        have ew0 : IntKind.u8.wrap (224 + z / 4096) = e0 := by rw [IntKind.wrap_u8', he0]; omega
        obtain ⟨e1, he1⟩ : ∃ e1 : Int, e1 = 128 + z / 64 % 64 := ⟨_, rfl⟩
        have ew1 : IntKind.u8.wrap (128 + z / 64 % 64) = e1 := by rw [IntKind.wrap_u8', he1]; omega
        obtain ⟨e2, he2⟩ : ∃ e2 : Int, e2 = 128 + z % 64 := ⟨_, rfl⟩
        have ew2 : IntKind.u8.wrap (128 + z % 64) = e2 := by rw [IntKind.wrap_u8', he2]; omega
        have HEQ : Hid (e0 = ((224 + v / 4096 : Nat) : Int) ∧ e1 = ((128 + v / 64 % 64 : Nat) : Int) ∧ e2 = ((128 + v % 64 : Nat) : Int)) := Lib.hid (by have := HZ.out; refine ⟨by omega, by omega, by omega⟩)
        clear he0 he1 he2
        go_wp2_with (at_builtin; refine wpList_append_own _ rfl _ _ 22 rfl w.heap.size 5 i0 (.int .u8 0) 1 1 Tryd.underlying22 hi hz0 hz1 hz2 rfl (by decide) _ _ _ rfl (own_alloc HW.out _) ⟨wr.heap.size, 0, none⟩ 3 3 [.int .u8 e0, .int .u8 e1, .int .u8 e2] rfl rfl (news_at _ _ _) (by intro u hu; simp at hu; rcases hu with rfl | rfl | rfl <;> rfl) (by unfold maxLen; omega) (by omega) (by rw [World.size_alloc]; omega) ?_; intro v1 w1 hown1 hgr1 _; have HW2 := Lib.hid hown1; have HG2 := Lib.hid hgr1; clear hown1 hgr1)
        go_roundw
        case rel =>
          have hbt : bts v = [224 + v / 4096, 128 + v / 64 % 64, 128 + v % 64] := by unfold bts; have := HZ.out; rw [if_neg (by omega), if_neg (by omega), if_pos (by omega)]
          refine BytRel.step (k := k) (k' := k + 1) (v := v) (by omega) (by omega) HW.out HE.out HO.out hol hB (by unfold okV; have := HZ.out; omega) (by rw [HDR.out]; exact enc_plain (by unfold hiU; have := HZ.out; simp; omega) (by unfold loU; have := HZ.out; simp; omega) _) (by rw [hbt]; simp) (m := 3) (by rw [hbt]; rfl) ?_ HG2.out (by rw [show ((k + 1 : Nat) : Int) = (k : Int) + 1 by omega])
          have q := HW2.out
          rw [hbt]
          have qq := HEQ.out
          rw [qq.1, qq.2.1, qq.2.2] at q
          exact q
        case measure => simp [intOf]; omega
      · obtain ⟨e0, he0⟩ : ∃ e0 : Int, e0 = 224 + z / 4096 := ⟨_, rfl⟩
        have ew0 : IntKind.u8.wrap (224 + z / 4096) = e0 := by rw [IntKind.wrap_u8', he0]; omega
        obtain ⟨e1, he1⟩ : ∃ e1 : Int, e1 = 128 + z / 64 % 64 := ⟨_, rfl⟩
        have ew1 : IntKind.u8.wrap (128 + z / 64 % 64) = e1 := by rw [IntKind.wrap_u8', he1]; omega
        obtain ⟨e2, he2⟩ : ∃ e2 : Int, e2 = 128 + z % 64 := ⟨_, rfl⟩
        have ew2 : IntKind.u8.wrap (128 + z % 64) = e2 := by rw [IntKind.wrap_u8', he2]; omega
        have HEQ : Hid (e0 = ((224 + v / 4096 : Nat) : Int) ∧ e1 = ((128 + v / 64 % 64 : Nat) : Int) ∧ e2 = ((128 + v % 64 : Nat) : Int)) := Lib.hid (by have := HZ.out; refine ⟨by omega, by omega, by omega⟩)
        clear he0 he1 he2
        go_wp2_with (at_builtin; refine wpList_append_own _ rfl _ _ 22 rfl w.heap.size 5 i0 (.int .u8 0) 1 1 Tryd.underlying22 hi hz0 hz1 hz2 rfl (by decide) _ _ _ rfl (own_alloc HW.out _) ⟨wr.heap.size, 0, none⟩ 3 3 [.int .u8 e0, .int .u8 e1, .int .u8 e2] rfl rfl (news_at _ _ _) (by intro u hu; simp at hu; rcases hu with rfl | rfl | rfl <;> rfl) (by unfold maxLen; omega) (by omega) (by rw [World.size_alloc]; omega) ?_; intro v1 w1 hown1 hgr1 _; have HW2 := Lib.hid hown1; have HG2 := Lib.hid hgr1; clear hown1 hgr1)
        go_roundw
        case rel =>
          have hbt : bts v = [224 + v / 4096, 128 + v / 64 % 64, 128 + v % 64] := by unfold bts; have := HZ.out; rw [if_neg (by omega), if_neg (by omega), if_pos (by have := HV2.out; omega)]
          refine BytRel.step (k := k) (k' := k + 1) (v := v) (by omega) (by omega) HW.out HE.out HO.out hol hB (by unfold okV; have := HZ.out; omega) (by rw [HDR.out]; exact enc_plain (by unfold hiU; have := HZ.out; simp; omega) (by unfold loU; have := HZ.out; simp; omega) _) (by rw [hbt]; simp) (m := 3) (by rw [hbt]; rfl) ?_ HG2.out (by rw [show ((k + 1 : Nat) : Int) = (k : Int) + 1 by omega])
          have q := HW2.out
          rw [hbt]
          have qq := HEQ.out
          rw [qq.1, qq.2.1, qq.2.2] at q
          exact q
        case measure => simp [intOf]; omega
      · have HH1 : Hid (hiU v = true) := Lib.hid (by unfold hiU; have := HZ.out; simp; omega)
        by_cases hlt2 : k + 1 < xs.length
        · have hadd2 := add_addr g o (k + 1)
          have htn : ((k : Int) + 1).toNat = k + 1 := by omega
          have hcell2 := HAT.out (k + 1) hlt2
          obtain ⟨u, hu⟩ : ∃ u, xs.getD (k + 1) 0 = u := ⟨_, rfl⟩
          rw [hu] at hcell2
          have hu2 : u < 65536 := by rw [← hu]; exact hbd _ (getD_mem hlt2)
          have hd2 := drop_cons hlt2
          rw [hu] at hd2
          obtain ⟨uz, huz⟩ : ∃ uz : Int, uz = u := ⟨_, rfl⟩
          rw [← huz] at hcell2
          have u0 : 0 ≤ uz := by omega
          have u1 : uz < 65536 := by omega
          have HUZ := Lib.hid huz
          have HD2 := Lib.hid hd2
          have d3 : (56320 ≤ uz ∧ uz < 57344) ∨ uz < 56320 ∨ 57344 ≤ uz := by omega
          clear hd2 hu huz hu2
          rcases d3 with ⟨r1, r2⟩ | r1 | r1
          · have HH2 : Hid (loU u = true) := Lib.hid (by unfold loU; have := HUZ.out; simp; omega)
            obtain ⟨y, hy⟩ : ∃ y : Int, 65536 + (z - 55296) * 1024 + uz - 56320 = y := ⟨_, rfl⟩
            have y0 : 65536 ≤ y := by omega
            have y1 : y ≤ 1114111 := by omega
            have HY : Hid (y = (joinV v u : Nat)) := Lib.hid (by have := HZ.out; have := HUZ.out; unfold joinV; omega)
            have HJ := Lib.hid (ok_join HH1.out HH2.out)
            obtain ⟨e0, he0⟩ : ∃ e0 : Int, e0 = 240 + y / 262144 := ⟨_, rfl⟩
            have ew0 : IntKind.u8.wrap (240 + y / 262144) = e0 := by rw [IntKind.wrap_u8', he0]; omega
            obtain ⟨e1, he1⟩ : ∃ e1 : Int, e1 = 128 + y / 4096 % 64 := ⟨_, rfl⟩
            have ew1 : IntKind.u8.wrap (128 + y / 4096 % 64) = e1 := by rw [IntKind.wrap_u8', he1]; omega
            obtain ⟨e2, he2⟩ : ∃ e2 : Int, e2 = 128 + y / 64 % 64 := ⟨_, rfl⟩
            have ew2 : IntKind.u8.wrap (128 + y / 64 % 64) = e2 := by rw [IntKind.wrap_u8', he2]; omega
            obtain ⟨e3, he3⟩ : ∃ e3 : Int, e3 = 128 + y % 64 := ⟨_, rfl⟩
            have ew3 : IntKind.u8.wrap (128 + y % 64) = e3 := by rw [IntKind.wrap_u8', he3]; omega
            have HEQ : Hid (e0 = ((240 + joinV v u / 262144 : Nat) : Int) ∧ e1 = ((128 + joinV v u / 4096 % 64 : Nat) : Int) ∧ e2 = ((128 + joinV v u / 64 % 64 : Nat) : Int) ∧ e3 = ((128 + joinV v u % 64 : Nat) : Int)) := Lib.hid (by have := HY.out; refine ⟨by omega, by omega, by omega, by omega⟩)
            clear he0 he1 he2 he3
            go_wp2_with (at_builtin; refine wpList_append_own _ rfl _ _ 22 rfl w.heap.size 5 i0 (.int .u8 0) 1 1 Tryd.underlying22 hi hz0 hz1 hz2 rfl (by decide) _ _ _ rfl (own_alloc HW.out _) ⟨wr.heap.size, 0, none⟩ 4 4 [.int .u8 e0, .int .u8 e1, .int .u8 e2, .int .u8 e3] rfl rfl (news_at _ _ _) (by intro u hu; simp at hu; rcases hu with rfl | rfl | rfl | rfl <;> rfl) (by unfold maxLen; omega) (by omega) (by rw [World.size_alloc]; omega) ?_; intro v1 w1 hown1 hgr1 _; have HW2 := Lib.hid hown1; have HG2 := Lib.hid hgr1; clear hown1 hgr1)
            go_roundw
            case rel =>
              have hbt : bts (joinV v u) = [240 + joinV v u / 262144, 128 + joinV v u / 4096 % 64, 128 + joinV v u / 64 % 64, 128 + joinV v u % 64] := by unfold bts; have := HJ.out.2; rw [if_neg (by omega), if_neg (by omega), if_neg (by omega)]
              refine BytRel.step (k := k) (k' := k + 2) (v := joinV v u) (by omega) (by omega) HW.out HE.out HO.out hol hB (HJ.out.1) (by rw [HDR.out, HD2.out]; exact enc_pair HH1.out HH2.out _) (by rw [hbt]; simp) (m := 4) (by rw [hbt]; rfl) ?_ HG2.out (by rw [show ((k + 2 : Nat) : Int) = (k : Int) + 1 + 1 by omega])
              have q := HW2.out
              rw [hbt]
              have qq := HEQ.out
              rw [qq.1, qq.2.1, qq.2.2.1, qq.2.2.2] at q
              exact q
            case measure => simp [intOf]; omega

          all_goals
            have HH2 : Hid (loU u = false) := Lib.hid (by unfold loU; have := HUZ.out; simp; omega)
            have hr : R = none := by
              rw [← hR.out, HE.out, HDR.out, HD2.out, enc_bad (by rw [HH1.out]; simp) (fun c' r'' e => by injection e with e1 e2; subst e1; rw [HH2.out]; simp)]
              rfl
            subst hr
            go_wp2_with fail
            go_ret2
            exact ⟨none, 0, rfl, Nat.le_refl _, by omega, Rd.nil, Plus.of_below hB⟩
        · have hr : R = none := by
            rw [← hR.out, HE.out, HDR.out, drop_end (by omega), enc_bad (by rw [HH1.out]; simp) (fun c' r'' e => by cases e)]
            rfl
          subst hr
          go_wp2_with fail
          go_ret2
          exact ⟨none, 0, rfl, Nat.le_refl _, by omega, Rd.nil, Plus.of_below hB⟩
      · have HH1 : Hid (hiU v = false) := Lib.hid (by unfold hiU; have := HZ.out; simp; omega)
        have HH2 : Hid (loU v = true) := Lib.hid (by unfold loU; have := HZ.out; simp; omega)
        have hr : R = none := by
          rw [← hR.out, HE.out, HDR.out, enc_bad (by rw [HH2.out]; simp) (fun c' r'' e => by rw [HH1.out]; simp)]
          rfl
        subst hr
        go_wp2_with fail
        go_ret2
        exact ⟨none, 0, rfl, Nat.le_refl _, by omega, Rd.nil, Plus.of_below hB⟩
    · obtain rfl : k = xs.length := by omega
      have hr : R = some out := by
        rw [← hR.out, he, drop_end (Nat.le_refl _)]
        show some (out ++ []) = some out
        rw [List.append_nil]
      subst hr
      obtain ⟨C, d, rfl, q1, q2, q3⟩ := rd_of_own hown
      have Q3 := Lib.hid q3
      clear hown he hob q3
      go_wp2_with fail
      go_ret2
      exact ⟨C, d, rfl, q1, q2, Q3.out, Plus.of_below hB⟩
theorem refBytes3_n {A : Option Addr} {xs G : List Nat} {n c : Nat} {er : Int} (h : Hid (ByN xs G er)) (w : World) (ha : Ar .u16 65536 w A xs n c) (hs : n ≤ 1099511627776) :
    Calls Tryd.prog 18 #[.slice A n c] w fun e w' => ∃ (C : Option Addr) (d : Nat), e = .returned (.tuple #[.slice C G.length d, .int .i64 er]) ∧ Ar .u8 256 w' C G G.length d ∧ Plus w w' := by
  rcases h.out with ⟨h1, rfl⟩ | ⟨h1, rfl, rfl⟩
  · refine (ref_bytes_c A xs n c w ha hs _ (Lib.hid h1)).mono ?_
    rintro e w' ⟨C, d, rfl, q1, q2, q3, q4⟩
    exact ⟨C, d, rfl, ⟨q3, rfl, q1, q2, (deu_enc xs.length xs (Nat.le_refl _) ha.bd G h1).1⟩, q4⟩
  · refine (ref_bytes_c A xs n c w ha hs _ (Lib.hid h1)).mono ?_
    rintro e w' ⟨C, d, rfl, q1, q2, q3, q4⟩
    exact ⟨C, d, rfl, ⟨q3, rfl, q1, q2, fun x hx => by simp at hx⟩, q4⟩
end Go.Proofs.YtlbjjkiflcjkgaaDoor
