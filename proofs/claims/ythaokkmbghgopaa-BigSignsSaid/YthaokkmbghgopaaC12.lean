/- Contract: Clone; boxes that turn. -/
import Derived.WalkSpells
import Derived.Test.YthaokkmbghgopaaC11
namespace Go.Proofs.Ythaokkmbghgopaa
open Go.RowKit


theorem Lim.news {w : World} {ad : Addr} {xs : List Nat} (h : Lim w (some ad) xs) : ∀ j u, (u32s xs)[j]? = some u → w.cell? (ad.add j) = some u := fun j u hj => by
  unfold u32s at hj
  rw [List.getElem?_map] at hj
  by_cases hlt : j < xs.length
  · rw [List.getElem?_eq_getElem hlt] at hj
    obtain ⟨ad', e, _, hc⟩ := h.2 (by omega)
    injection e with e
    subst e
    rw [hc j hlt, lim_in hlt]
    simpa using hj
  · rw [List.getElem?_eq_none (by omega)] at hj
    cases hj
theorem u32s_one (xs : List Nat) : ∀ u ∈ u32s xs, u.oneCell' = true := fun u hu => by
  obtain ⟨x, _, rfl⟩ := List.mem_map.1 hu
  rfl
theorem u32s_len (xs : List Nat) : (u32s xs).length = xs.length := by simp [u32s]
/-- A copy, in new memory. -/
def NewC (xs : List Nat) (w : World) (e : Ending) (w' : World) : Prop :=
  ∃ v, e = .returned v ∧ w'.ownsRow w.heap.size 53 1 v xs.length (u32s xs) ∧ Below w.heap.size w w'
theorem own_of_own {w : World} {b : Nat} {v : Value} {xs : List Nat} (ho : okL xs) (h : w.ownsRow b 53 1 v xs.length (u32s xs)) (h0 : 0 < xs.length) :
    ∃ g c, v = .slice (some ⟨g, 0, none⟩) xs.length c ∧ xs.length ≤ c ∧ c ≤ 9223372036854775807 ∧ b ≤ g ∧ Own w g xs := by
  rcases h.2 with ⟨_, e⟩ | ⟨g, cap, cur, rfl, hb, hg, hl, hm, hs, ht⟩
  · omega
  · refine ⟨g, cap, rfl, hl, by unfold maxLen at hm; exact hm, hb, ho, cur, 53, hg, fun j hj => ?_⟩
    have e : cur[j]? = cur.toList[j]? := by simp
    have e2 : (cur.toList.take (xs.length * 1))[j]? = cur.toList[j]? := by rw [List.getElem?_take, if_pos (by omega)]
    rw [e, ← e2, ht]
    unfold u32s
    rw [List.getElem?_map, List.getElem?_eq_getElem hj, lim_in hj]
    rfl

set_option maxRecDepth 100000 in
set_option maxHeartbeats 1000000 in
theorem clone_c (A : Option Addr) (xs : List Nat) (n c : Nat) (w : World) (h : Lim w A xs) (hn : n = xs.length) (hl : xs.length ≤ 1048576) :
    Calls Try.prog 55 #[.slice A n c] w (NewC xs w) := by
  subst hn
  obtain ⟨i0, hi, hz0, hz1, hz2⟩ := info_parts info53
  have q22 : ∀ (w : World) (a : Option Addr) (n c n' c' : Nat), (binOp .eql 22 (.slice a n c) (.slice none n' c')).run Try.prog w = .ok (.bool a.isNone) w := fun w a n c n' c' => Lib.run_eql_slice_nil w _ _ a n c n' c' Try.underlying22
  have H := Lib.hid h
  rcases A with _ | ad
  · have h0 : xs = [] := by
      rcases xs with _ | ⟨x, xs⟩
      · rfl
      · obtain ⟨ad, e, _⟩ := h.2 (by simp)
        cases e
    subst h0
    clear h
    go_enter Try.func55, Try.ntmps55
    go_wp2
    go_ret
    exact ⟨_, rfl, World.ownsRow_nil _ _ _ _, Below.refl _ _⟩
  · clear h
    go_enter Try.func55, Try.ntmps55
    go_wp2_with (at_builtin; refine wpList_append_own _ rfl _ _ 22 rfl w.heap.size 53 i0 (.int .u32 0) 1 4 Try.underlying22 hi hz0 hz1 hz2 rfl (by decide) _ _ _ rfl (World.ownsRow_made w #[] 0 (Nat.le_refl _) (Nat.zero_le _) rfl) ad xs.length c (u32s xs) rfl (by rw [u32s_len, Nat.mul_one]) (H.out.alloc _).news (u32s_one xs) (by unfold maxLen; omega) (by omega) (by simp) ?_; intro v1 w1 hown1 hgr1 _; have HW1 := Lib.hid hown1; have HG1 := Lib.hid hgr1; clear hown1 hgr1)
    go_ret
    refine ⟨v1, rfl, by simpa using HW1.out, ((Below.refl _ w).alloc (Nat.le_refl _) _).grown HG1.out (by simp) (fun k hk => by have hk' : some w.heap.size = some k := hk; injection hk' with hk'; omega)⟩

/-! Boxes: blocks whose cells are a sign and a slice. They hold no limbs; they may turn. -/
def isBox (o : Obj) : Prop := ∃ b a n c t, o = .cells #[.bool b, .slice a n c] t
theorem isBox.mk (b : Bool) (a : Option Addr) (n c : Nat) (t : TypeId) : isBox (.cells #[.bool b, .slice a n c] t) := ⟨b, a, n, c, t, rfl⟩
theorem Lim.alt {W W' : World} {A : Option Addr} {xs : List Nat} (h : Lim W A xs) (D : Nat → Prop) (hs : W.heap.size ≤ W'.heap.size) (hD : ∀ g, D g → ∃ o, W.heap[g]? = some o ∧ isBox o) (ho : ∀ k, ¬ D k → W'.heap[k]? = W.heap[k]?) : Lim W' A xs := by
  refine ⟨h.1, fun h0 => ?_⟩
  obtain ⟨ad, rfl, hb, hc⟩ := h.2 h0
  have hne : ¬ D ad.block := fun e => by
    obtain ⟨o, h3, b, a, n, c, t, rfl⟩ := hD _ e
    have h1 := hc 0 h0
    have h2 : (ad.add 0) = ad := by unfold Addr.add; rw [if_pos rfl]
    rw [h2] at h1
    unfold World.cell? at h1
    rw [h3] at h1
    simp only at h1
    split at h1
    · cases h1
    · match hoff : ad.off with
      | 0 => rw [hoff] at h1; simp at h1
      | 1 => rw [hoff] at h1; simp at h1
      | k + 2 => rw [hoff] at h1; simp at h1
  refine ⟨ad, rfl, by omega, fun j hj => ?_⟩
  rw [← hc j hj]
  apply World.cell?_of_block
  rw [block_of_add, ho _ hne]
theorem heap_three (w : World) (o1 o2 o3 : Obj) (x : More) (k : Nat) : (_root_.Go.Proofs.Ythaokkmbghgopaa.plus (((w.alloc o1).alloc o2).alloc o3) x).heap[k]? = if k < w.heap.size then w.heap[k]? else (o1 :: o2 :: o3 :: x.blocks)[k - w.heap.size]? := by
  have e : (_root_.Go.Proofs.Ythaokkmbghgopaa.plus (((w.alloc o1).alloc o2).alloc o3) x).heap = w.heap ++ (o1 :: o2 :: o3 :: x.blocks).toArray := by
    unfold _root_.Go.Proofs.Ythaokkmbghgopaa.plus World.alloc
    apply Array.ext'
    simp
  rw [e]
  by_cases hk : k < w.heap.size
  · rw [Array.getElem?_append_left hk, if_pos hk]
  · rw [Array.getElem?_append_right (by omega), if_neg hk]
    simp
theorem heap_two (w : World) (o1 o2 : Obj) (x : More) (k : Nat) : (_root_.Go.Proofs.Ythaokkmbghgopaa.plus ((w.alloc o1).alloc o2) x).heap[k]? = if k < w.heap.size then w.heap[k]? else (o1 :: o2 :: x.blocks)[k - w.heap.size]? := by
  have e : (_root_.Go.Proofs.Ythaokkmbghgopaa.plus ((w.alloc o1).alloc o2) x).heap = w.heap ++ (o1 :: o2 :: x.blocks).toArray := by
    unfold _root_.Go.Proofs.Ythaokkmbghgopaa.plus World.alloc
    apply Array.ext'
    simp
  rw [e]
  by_cases hk : k < w.heap.size
  · rw [Array.getElem?_append_left hk, if_pos hk]
  · rw [Array.getElem?_append_right (by omega), if_neg hk]
    simp
theorem size_three (w : World) (o1 o2 o3 : Obj) (x : More) : (_root_.Go.Proofs.Ythaokkmbghgopaa.plus (((w.alloc o1).alloc o2).alloc o3) x).heap.size = w.heap.size + 3 + x.blocks.length := by
  rw [size_plus]; simp only [World.size_alloc]
theorem size_two (w : World) (o1 o2 : Obj) (x : More) : (_root_.Go.Proofs.Ythaokkmbghgopaa.plus ((w.alloc o1).alloc o2) x).heap.size = w.heap.size + 2 + x.blocks.length := by
  rw [size_plus]; simp only [World.size_alloc]
/-- Two boxes turn. -/
theorem Lim.box2 {w : World} {x : More} {A : Option Addr} {xs : List Nat} {o1 o2 p1 p2 : Obj} (h : Lim (_root_.Go.Proofs.Ythaokkmbghgopaa.plus ((w.alloc o1).alloc o2) x) A xs) (h1 : isBox o1) (h2 : isBox o2) : Lim (_root_.Go.Proofs.Ythaokkmbghgopaa.plus ((w.alloc p1).alloc p2) x) A xs := by
  refine h.alt (fun g => g = w.heap.size ∨ g = w.heap.size + 1) (by rw [size_two, size_two]; exact Nat.le_refl _) (fun g hg => ?_) (fun k hk => ?_)
  · rcases hg with rfl | rfl
    · exact ⟨o1, by rw [heap_two, if_neg (by omega), Nat.sub_self]; rfl, h1⟩
    · exact ⟨o2, by rw [heap_two, if_neg (by omega), Nat.add_sub_cancel_left]; rfl, h2⟩
  · rw [heap_two, heap_two]
    split
    · rfl
    · obtain ⟨j, hj⟩ : ∃ j, k - w.heap.size = j + 2 := ⟨k - w.heap.size - 2, by omega⟩
      rw [hj]
      rfl
/-- Three boxes turn. -/
theorem Lim.box3 {w : World} {x : More} {A : Option Addr} {xs : List Nat} {o1 o2 o3 p1 p2 p3 : Obj} (h : Lim (_root_.Go.Proofs.Ythaokkmbghgopaa.plus (((w.alloc o1).alloc o2).alloc o3) x) A xs) (h1 : isBox o1) (h2 : isBox o2) (h3 : isBox o3) : Lim (_root_.Go.Proofs.Ythaokkmbghgopaa.plus (((w.alloc p1).alloc p2).alloc p3) x) A xs := by
  refine h.alt (fun g => g = w.heap.size ∨ g = w.heap.size + 1 ∨ g = w.heap.size + 2) (by rw [size_three, size_three]; exact Nat.le_refl _) (fun g hg => ?_) (fun k hk => ?_)
  · rcases hg with rfl | rfl | rfl
    · exact ⟨o1, by rw [heap_three, if_neg (by omega), Nat.sub_self]; rfl, h1⟩
    · exact ⟨o2, by rw [heap_three, if_neg (by omega), Nat.add_sub_cancel_left]; rfl, h2⟩
    · exact ⟨o3, by rw [heap_three, if_neg (by omega), Nat.add_sub_cancel_left]; rfl, h3⟩
  · rw [heap_three, heap_three]
    split
    · rfl
    · obtain ⟨j, hj⟩ : ∃ j, k - w.heap.size = j + 3 := ⟨k - w.heap.size - 3, by omega⟩
      rw [hj]
      rfl
end Go.Proofs.Ythaokkmbghgopaa
