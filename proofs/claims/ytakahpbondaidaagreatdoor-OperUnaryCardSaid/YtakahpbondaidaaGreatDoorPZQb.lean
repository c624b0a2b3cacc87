/- renref2.Parse. -/
import Derived.Deep.LoopGhost
import Derived.Deep.AppendLies
import Derived.Test.YtakahpbondaidaaGreatDoorPZQ
import Derived.Test.YtakahpbondaidaaGreatDoorPZE
namespace Go.Proofs.YtakahpbondaidaaGreatDoor.Bg
open Go.RowKit

/-- What Parse gives. -/
def PRes (l : List UInt8) (w : World) (e : Ending) (w' : World) : Prop :=
  match rd l with
  | .form => e = .returned (.tuple #[.agg #[.bool false, .slice none 0 0], .int .i64 2]) ∧ Plus w w'
  | .long => e = .returned (.tuple #[.agg #[.bool false, .slice none 0 0], .int .i64 3]) ∧ Plus w w'
  | .is z => ∃ (A1 : Option Addr) (c1 : Nat), e = .returned (.tuple #[.agg #[.bool (decide (z < 0)), .slice A1 (dig z.natAbs).length c1], .int .i64 0]) ∧ (dig z.natAbs).length ≤ c1 ∧ c1 ≤ 9223372036854775807 ∧ Lim w' A1 (dig z.natAbs) ∧ Plus w w'
theorem PRes.form {l : List UInt8} {w w' : World} {e : Ending} (h : rd l = .form) (he : e = .returned (.tuple #[.agg #[.bool false, .slice none 0 0], .int .i64 2]) ∧ Plus w w') : PRes l w e w' := by
  unfold PRes
  rw [h]
  exact he
theorem PRes.long {l : List UInt8} {w w' : World} {e : Ending} (h : rd l = .long) (he : e = .returned (.tuple #[.agg #[.bool false, .slice none 0 0], .int .i64 3]) ∧ Plus w w') : PRes l w e w' := by
  unfold PRes
  rw [h]
  exact he
theorem PRes.is {l : List UInt8} {w w' : World} {e : Ending} {z : Int} (h : rd l = .is z) (he : ∃ (A1 : Option Addr) (c1 : Nat), e = .returned (.tuple #[.agg #[.bool (decide (z < 0)), .slice A1 (dig z.natAbs).length c1], .int .i64 0]) ∧ (dig z.natAbs).length ≤ c1 ∧ c1 ≤ 9223372036854775807 ∧ Lim w' A1 (dig z.natAbs) ∧ Plus w w') : PRes l w e w' := by
  unfold PRes
  rw [h]
  exact he
end Go.Proofs.YtakahpbondaidaaGreatDoor.Bg
namespace Go.Proofs.YtakahpbondaidaaGreatDoor.Bg
open Go.RowKit

/-- An append to a row of the call's own, in a region that draws its order. -/
theorem step_append_mine {P : Program} {ops : Array Oper} {o : Oper} {a : Act} {w : World} {K : Act → World → Prop} {Q : Exit → Act → World → Prop} {E : Prop} (hgd : o.guard = none) (s x : Operand) (t : TypeId)
    (ho : o.op = .call { callee := .builtin .append, args := #[s, x], argTypes := #[t, t] })
    (base : Nat) (e : TypeId) (i : TypeInfo) (z : Value) (size bytes : Nat) (ht : P.underlying t = some (.slice e)) (hi : P.info? e = some i) (hz : i.zero = some z)
    (hsize : i.size = size) (hby : i.bytes = bytes) (hzs : z.cells.size = size) (hsz : 0 < size)
    (v : Value) (n : Nat) (xs : List Value) (hs : a.eval s = v) (hown : w.ownsRow base e size v n xs)
    (ad : Addr) (m c : Nat) (news : List Value) (hx : a.eval x = .slice (some ad) m c) (hl : news.length = m * size) (hnews : ∀ j u, news[j]? = some u → w.cell? (ad.add j) = some u) (h1 : ∀ u ∈ news, u.oneCell' = true)
    (h63 : n + m ≤ maxLen) (hbytes : (n + m) * bytes ≤ 140737488355328) (hbase : base ≤ w.heap.size)
    (h : ∀ v' w', w'.ownsRow base e size v' (n + m) (xs ++ news) → w.grownBy w' v.ownBlock → K (a.put o.dst v') w') :
    if Region.wanted o (yielded ops a.tmps) = true then Oper.wp P o a w K Q else E := by
  rw [if_pos (by simp [Region.wanted, hgd])]
  exact wp_append_own w s x t ho base e i z size bytes ht hi hz hsize hby hzs hsz v n xs hs hown ad m c news hx hl hnews h1 h63 hbytes hbase fun v' w' h2 h3 _ => h v' w' h2 h3
theorem own_made_at {W : World} {B : Nat} (hB : B = W.heap.size) : (W.alloc (.cells #[] 69)).drew.ownsRow B 69 1 (.slice (some ⟨B, 0, none⟩) 0 0) 0 [] := by
  subst hB
  exact World.ownsRow_made W #[] 0 (Nat.le_refl _) (Nat.zero_le _) rfl
theorem copied {W w1 : World} {xs : List Nat} {v1 : Value} {B : Nat} (hB : B = W.heap.size) (ho : okL xs) (h1 : w1.ownsRow B 69 1 v1 (0 + xs.length) (([] : List Value) ++ u32s xs)) (hg : (W.alloc (.cells #[] 69)).drew.grownBy w1 (some B)) :
    ∃ A1 c1 z, v1 = .slice A1 xs.length c1 ∧ w1 = _root_.Go.Proofs.YtakahpbondaidaaGreatDoor.plus W z ∧ xs.length ≤ c1 ∧ c1 ≤ 9223372036854775807 ∧ Lim (_root_.Go.Proofs.YtakahpbondaidaaGreatDoor.plus W z) A1 xs := by
  subst hB
  rw [Nat.zero_add, List.nil_append] at h1
  obtain ⟨A, c, rfl, q1, q2, q3, q4⟩ := lim_of_own' ho h1
  have hb : Below W.heap.size W (W.alloc (.cells #[] 69)).drew := ((Below.refl _ W).alloc (Nat.le_refl _) _).drew
  obtain ⟨z, rfl⟩ := Plus.of_below (hb.grown hg (by simp) (fun j e => by injection e with e; omega))
  exact ⟨A, c, z, rfl, rfl, q1, q2, q3⟩
set_option maxRecDepth 100000 in
set_option maxHeartbeats 4000000 in
theorem rcopy_h (an : Bool) (ad : Addr) (xs : List Nat) (c : Nat) (w : World) (ha : Hid (Arg w (some ad) xs xs.length c)) :
    Calls Tryz.prog 42 #[.agg #[.bool an, .slice (some ad) xs.length c]] w fun e w' => ∃ (A1 : Option Addr) (c1 : Nat), e = .returned (.agg #[.bool an, .slice A1 xs.length c1]) ∧ Arg w' A1 xs xs.length c1 ∧ Plus w w' := by
  obtain ⟨i0, hi, hz0, hz1, hz2⟩ := info_parts info53_
  have hfew : Hid (xs.length ≤ 1048576) := Lib.hid ha.out.few
  go_enter Tryz.func42, Tryz.ntmps42
  go_upto_region 1 with fail
  go_region_held3 (fun w' => w'.cell? ⟨w.heap.size, 0, none⟩ = some (.bool an) ∧ w'.cell? ⟨w.heap.size, 1, none⟩ = some (.slice (some ad) xs.length c)) (first | (refine ⟨?_, ?_⟩ <;> simp [go_sem]; done) | go_show)
    ((refine step_append_mine (by rfl) _ _ _ (by rfl) (w.heap.size + 1 + 1) 69 i0 (.int .u32 0) 1 4 Tryz.underlying24 hi hz0 hz1 hz2 rfl (by decide) (.slice (some ⟨w.heap.size + 1 + 1, 0, none⟩) 0 0) 0 [] (by rfl) (own_made_at (W := (w.alloc (.cells #[.bool an, .slice (some ad) xs.length c] 26)).alloc (.cells #[.bool false, .slice none 0 0] 26)) (by simp [go_sem])) ad xs.length c (u32s xs) (by rfl) (by rw [u32s_len]; simp) (news_lim (ha.out.lim.plus (by repeat' (first | exact Plus.refl _ | refine Plus.alloc ?_ _ | refine Plus.plus ?_ _ | refine Plus.drew ?_ | refine Plus.drewN ?_ _)))) (u32s_one _) (by have := hfew.out; unfold maxLen; omega) (by have := hfew.out; omega) (by simp [go_sem]) ?_; intro v1 w1 hown1 hgr1; obtain ⟨A1, c1, z, rfl, rfl, q1, q2, q3⟩ := copied (W := (w.alloc (.cells #[.bool an, .slice (some ad) xs.length c] 26)).alloc (.cells #[.bool false, .slice none 0 0] 26)) (by simp [go_sem]) ha.out.lim.1 hown1 hgr1; have HL := Lib.hid q3; have H1 := Lib.hid q1; have H2 := Lib.hid q2; clear hown1 hgr1 q1 q2 q3))
  all_goals
    go_wp2_with fail
    go_returns
    refine ⟨A1, c1, rfl, ⟨?_, rfl, hfew.out, H1.out, H2.out⟩, ?_⟩
    · have q := HL.out
      (try simp only [plus_drew] at q)
      exact q.later (by repeat' (first | (refine Later.of_alt ?_; (repeat' (first | exact Alt.refl _ | refine Alt.grow ?_ _ | refine Alt.drewL ?_ | refine Alt.drewR ?_ | refine Alt.box ?_ (isBox.mk _ _ _ _ _) (isBox.mk _ _ _ _ _) | refine Alt.alloc ?_ _)); done) | refine Later.alloc ?_ _ | refine Later.grow ?_ _ | refine Later.drew ?_))
    · repeat' (first | exact Plus.refl _ | refine Plus.alloc ?_ _ | refine Plus.plus ?_ _ | refine Plus.drew ?_ | refine Plus.drewN ?_ _)

set_option maxRecDepth 100000 in
set_option maxHeartbeats 4000000 in
theorem rcopy_nil (an : Bool) (c : Nat) (w : World) :
    Calls Tryz.prog 42 #[.agg #[.bool an, .slice none 0 c]] w fun e w' => e = .returned (.agg #[.bool an, .slice (some ⟨w.heap.size + 1 + 1, 0, none⟩) 0 0]) ∧ Plus w w' := by
  go_enter Tryz.func42, Tryz.ntmps42
  go_upto_region 1 with fail
  go_region
  all_goals
    go_wp2_with fail
    go_returns
    exact ⟨rfl, by repeat' (first | exact Plus.refl _ | refine Plus.alloc ?_ _ | refine Plus.plus ?_ _ | refine Plus.drew ?_ | refine Plus.drewN ?_ _)⟩
theorem rcopy_c {an : Bool} {A : Option Addr} {xs : List Nat} {n c : Nat} (w : World) (ha : Arg w A xs n c) :
    Calls Tryz.prog 42 #[.agg #[.bool an, .slice A n c]] w fun e w' => ∃ (A1 : Option Addr) (c1 : Nat), e = .returned (.agg #[.bool an, .slice A1 n c1]) ∧ Arg w' A1 xs n c1 ∧ Plus w w' := by
  obtain rfl := ha.len
  rcases A with _ | ad
  · have h0 : xs = [] := by
      rcases xs with _ | ⟨x, xs⟩
      · rfl
      · obtain ⟨ad, e, _⟩ := ha.lim.2 (by simp)
        cases e
    subst h0
    exact (rcopy_nil an c w).mono fun _ _ ⟨h1, h2⟩ => ⟨_, 0, h1, ⟨Lim.nil, rfl, by decide, Nat.le_refl _, by decide⟩, h2⟩
  · exact rcopy_h an ad xs c w (Lib.hid ha)

end Go.Proofs.YtakahpbondaidaaGreatDoor.Bg
