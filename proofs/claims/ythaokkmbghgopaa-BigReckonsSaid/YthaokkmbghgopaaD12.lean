/- The document's BigInts: are they the same? -/
import Derived.Test.YthaokkmbghgopaaD11
namespace Go.Proofs.Ythaokkmbghgopaa
open Go.RowKit


theorem lim_ne {xs ys : List Nat} {j : Nat} (h : lim xs j ≠ lim ys j) : decide (xs = ys) = false := decide_eq_false fun e => h (by rw [e])
theorem lim_all {xs ys : List Nat} (hl : xs.length = ys.length) (h : ∀ k, k < xs.length → lim xs k = lim ys k) : decide (xs = ys) = true := decide_eq_true (by
  apply List.ext_getElem hl
  intro i h1 h2
  have := h i h1
  simpa [lim, List.getD, h1, h2] using this)
set_option maxRecDepth 100000 in
set_option maxHeartbeats 2000000 in
theorem rlimbs_c (A C : Option Addr) (xs ys : List Nat) (n c m d : Nat) (w : World) (h : Lim w A xs) (k : Lim w C ys) (hn : n = xs.length) (hm : m = ys.length) (hl : n ≤ 1048576) (kl : m ≤ 1048576) :
    Calls Try.prog 64 #[.slice A n c, .slice C m d] w fun e w' => e = .returned (.bool (decide (xs = ys))) ∧ Plus w w' := by
  obtain ⟨V, hV⟩ : ∃ V, decide (xs = ys) = V := ⟨_, rfl⟩
  rw [hV]
  by_cases hnm : n = m
  · subst hnm
    have b1 : ((n : Int) != (n : Int)) = false := by simp
    go_enter Try.func64, Try.ntmps64
    go_wp2
    go_loopw [5] (fun s5 wr => (∃ j : Nat, j ≤ n ∧ s5 = .int .i64 j ∧ ∀ k, k < j → lim xs k = lim ys k) ∧ Plus w wr) (fun s5 _ => ((n : Int) - intOf s5).toNat)
    case atStart => exact ⟨⟨0, by omega, rfl, fun k hk => absurd hk (Nat.not_lt_zero k)⟩, Plus.refl _⟩
    case round =>
      obtain ⟨⟨j, hj, rfl, hall⟩, hp⟩ := hrel
      by_cases hlt : j < n
      · have hA : Lim wr A xs := h.below hp.below
        have hC : Lim wr C ys := k.below hp.below
        obtain ⟨a1, rfl, e1⟩ := hA.at_ (k := j) (by omega)
        obtain ⟨a2, rfl, e2⟩ := hC.at_ (k := j) (by omega)
        have HP := Lib.hid hp
        have HALL := Lib.hid hall
        obtain ⟨v, hv⟩ : ∃ v, lim xs j = v := ⟨_, rfl⟩
        obtain ⟨u, hu⟩ : ∃ u, lim ys j = u := ⟨_, rfl⟩
        rw [hv] at e1
        rw [hu] at e2
        clear hA hC hp hall
        have hj2 : (j : Int) ≤ 1048576 := by omega
        by_cases hvu : v = u
        · subst hvu
          have b2 : ((v : Int) != (v : Int)) = false := by simp
          go_wp2_with fail
          go_quiet (fail)
          go_wp2_with fail
          go_roundw
          case rel =>
            refine ⟨⟨j + 1, hlt, by rw [show ((j + 1 : Nat) : Int) = (j : Int) + 1 by omega], fun k hk => ?_⟩, HP.out.drewN _⟩
            rcases Nat.lt_or_ge k j with h1 | h1
            · exact HALL.out k h1
            · rw [show k = j by omega, hv, hu]
          case measure => simp [intOf]; omega
        · have b2 : ((v : Int) != (u : Int)) = true := by simp; omega
          have hd : decide (xs = ys) = false := lim_ne (j := j) (by rw [hv, hu]; exact hvu)
          obtain rfl : V = false := hV.symm.trans hd
          go_wp2_with fail
          go_quiet (fail)
          go_wp2_with fail
          go_ret
          exact ⟨rfl, HP.out.drewN _⟩
      · obtain rfl : j = n := by omega
        obtain rfl : V = true := hV.symm.trans (lim_all (by omega) (fun k hk => hall k (by omega)))
        go_wp2_with fail
        go_ret
        exact ⟨rfl, hp⟩
  · have b1 : ((n : Int) != (m : Int)) = true := by simp; omega
    have hd : decide (xs = ys) = false := decide_eq_false fun e => hnm (by rw [hn, hm, e])
    obtain rfl : V = false := hV.symm.trans hd
    go_enter Try.func64, Try.ntmps64
    go_wp2
    go_ret
    exact ⟨rfl, Plus.refl _⟩
end Go.Proofs.Ythaokkmbghgopaa
