/- The document's own copies. -/
import Derived.WalkKit
import Derived.WalkSpells
import Derived.WalkLawsBesides
import Derived.Handy
import Derived.Deep.RegionHeld3
import Derived.Deep.DeepCutAuto
import Derived.Deep.QuietTactic
import Derived.BigQuiet
import Derived.Lib.Hide
import Derived.KernelRfl
import Derived.WalkMore
import Derived.Deep.LoopGhost
import Derived.IntWalk
import Derived.Laws.AppendOwn
import Derived.Deep.OwnRows
import Derived.Lib.SliceRun
import Derived.Test.YtcpmkfoelhopiaaR2
namespace Go.Proofs.Ytcpmkfoelhopiaa
open Go.RowKit

set_option maxRecDepth 100000 in
set_option maxHeartbeats 4000000 in
theorem copyB_c (A : Option Addr) (xs : List Int) (n c : Nat) (w : World) (h : Ar .u8 w A xs n c) (hl : n ≤ 1048576) :
    Calls Try.prog 45 #[.slice A n c] w (RetRow .u8 5 xs w) := by
  obtain ⟨h, rfl, _, _⟩ := h
  obtain ⟨i0, hi, hz0, hz1, hz2⟩ := info_parts infoU8
  have H := Lib.hid h
  rcases A with _ | ad
  · have h0 : xs = [] := by
      rcases xs with _ | ⟨x, xs⟩
      · rfl
      · obtain ⟨g, o, e, _⟩ := h (by simp)
        cases e
    subst h0
    clear h
    go_enter Try.func45, Try.ntmps45
    go_wp2
    go_ret
    exact ⟨_, _, rfl, World.ownsRow_made w #[] 0 (Nat.le_refl _) (Nat.zero_le _) rfl, Plus.alloc (Plus.refl _) _⟩
  · clear h
    go_enter Try.func45, Try.ntmps45
    go_wp2_with (at_builtin; refine wpList_append_own _ rfl _ _ 22 rfl w.heap.size 5 i0 (.int .u8 0) 1 1 Try.underlying22 hi hz0 hz1 hz2 rfl (by decide) _ _ _ rfl (World.ownsRow_made w #[] 0 (Nat.le_refl _) (Nat.zero_le _) rfl) ad xs.length c (vals .u8 xs) rfl (by rw [vals_len, Nat.mul_one]) (H.out.alloc _).news (one_vals .u8 xs) (by unfold maxLen; omega) (by omega) (by simp) ?_; intro v1 w1 hown1 hgr1 _; have HW1 := Lib.hid hown1; have HG1 := Lib.hid hgr1; clear hown1 hgr1)
    go_ret
    have ho := HW1.out
    rw [Nat.zero_add, List.nil_append] at ho
    obtain ⟨D, k, rfl⟩ := row_form ho
    exact ⟨D, k, rfl, ho, Plus.of_below (((Below.refl _ w).alloc (Nat.le_refl _) _).grown HG1.out (by simp) (fun k hk => by have hk' : some w.heap.size = some k := hk; injection hk' with hk'; omega))⟩
set_option maxRecDepth 100000 in
set_option maxHeartbeats 4000000 in
theorem copyI_c (A : Option Addr) (xs : List Int) (n c : Nat) (w : World) (h : Ar .i64 w A xs n c) (hl : n ≤ 1048576) :
    Calls Try.prog 46 #[.slice A n c] w (RetRow .i64 3 xs w) := by
  obtain ⟨h, rfl, _, _⟩ := h
  obtain ⟨i0, hi, hz0, hz1, hz2⟩ := info_parts infoInt
  have H := Lib.hid h
  rcases A with _ | ad
  · have h0 : xs = [] := by
      rcases xs with _ | ⟨x, xs⟩
      · rfl
      · obtain ⟨g, o, e, _⟩ := h (by simp)
        cases e
    subst h0
    clear h
    go_enter Try.func46, Try.ntmps46
    go_wp2
    go_ret
    exact ⟨_, _, rfl, World.ownsRow_made w #[] 0 (Nat.le_refl _) (Nat.zero_le _) rfl, Plus.alloc (Plus.refl _) _⟩
  · clear h
    go_enter Try.func46, Try.ntmps46
    go_wp2_with (at_builtin; refine wpList_append_own _ rfl _ _ 23 rfl w.heap.size 3 i0 (.int .i64 0) 1 8 Try.underlying23 hi hz0 hz1 hz2 rfl (by decide) _ _ _ rfl (World.ownsRow_made w #[] 0 (Nat.le_refl _) (Nat.zero_le _) rfl) ad xs.length c (vals .i64 xs) rfl (by rw [vals_len, Nat.mul_one]) (H.out.alloc _).news (one_vals .i64 xs) (by unfold maxLen; omega) (by omega) (by simp) ?_; intro v1 w1 hown1 hgr1 _; have HW1 := Lib.hid hown1; have HG1 := Lib.hid hgr1; clear hown1 hgr1)
    go_ret
    have ho := HW1.out
    rw [Nat.zero_add, List.nil_append] at ho
    obtain ⟨D, k, rfl⟩ := row_form ho
    exact ⟨D, k, rfl, ho, Plus.of_below (((Below.refl _ w).alloc (Nat.le_refl _) _).grown HG1.out (by simp) (fun k hk => by have hk' : some w.heap.size = some k := hk; injection hk' with hk'; omega))⟩
end Go.Proofs.Ytcpmkfoelhopiaa
