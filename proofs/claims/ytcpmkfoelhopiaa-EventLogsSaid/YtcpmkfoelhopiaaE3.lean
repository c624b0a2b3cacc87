/- Pairs in memory; slices.Equal of pairs. -/
import Derived.WalkKit
import Derived.WalkSpells
import Derived.WalkLawsBesides
import Derived.Handy
import Derived.Deep.RegionHeld3
import Derived.Deep.DeepCutAuto
import Derived.Deep.QuietTactic
import Derived.BigQuiet
import Derived.Lib.Hide
import Derived.KernelRfl
import Derived.WalkMore
import Derived.Deep.LoopGhost
import Derived.IntWalk
import Derived.Laws.StructEq
import Derived.Laws.Tables
import Derived.Laws.Cover2
import Derived.Laws.Pointers
import Derived.Laws.Small
import Derived.Test.YtcpmkfoelhopiaaE2
namespace Go.Proofs.Ytcpmkfoelhopiaa
open Go.RowKit

@[go_sem] theorem eq56 (a b c d : Int) (w : World) : (Op.equalIn 10000 56 (.agg #[.int .i64 a, .int .i64 b]) (.agg #[.int .i64 c, .int .i64 d])).run Try.prog w = .ok (a == c && b == d) w := by
  have u3 := Try.underlying3
  have a3 := Try.isAgg3
  have z3 := Try.sizeOf3
  rw [show (10000 : Nat) = 9999 + 1 from rfl, Op.equalIn]
  simp only [Sem.run_bind, run_underlying Try.underlying56, Result.andThen_ok]
  simp only [Std.Legacy.Range.forIn_eq_forIn_range', Std.Legacy.Range.size, Nat.sub_zero, Nat.add_sub_cancel, Nat.div_one, List.range'_succ, List.range'_zero, List.forIn_cons, List.forIn_nil]
  go_simp
  by_cases h1 : a = c <;> by_cases h2 : b = d <;> simp [h1, h2]
abbrev Pr := Int × Int
/-- The slice at A reads as the pairs ps. -/
def PaR (w : World) (A : Option Addr) (ps : List Pr) : Prop := 0 < ps.length → ∃ g o, A = some ⟨g, o, none⟩ ∧ g < w.heap.size ∧ ∀ i, i < ps.length → w.cell? ⟨g, o + i * 2, none⟩ = some (.int .i64 (ps.getD i (0, 0)).1) ∧ w.cell? ⟨g, o + i * 2 + 1, none⟩ = some (.int .i64 (ps.getD i (0, 0)).2)
structure Pa (w : World) (A : Option Addr) (ps : List Pr) (n c : Nat) : Prop where
  rd : PaR w A ps
  len : n = ps.length
  cap : n ≤ c
  max : c ≤ 9223372036854775807
section
variable {w w' : World} {A : Option Addr} {ps : List Pr} {n c : Nat}
theorem PaR.keep (h : PaR w A ps) (hs : w.heap.size ≤ w'.heap.size) (hk : ∀ b, A.map (·.block) = some b → b < w.heap.size → w'.heap[b]? = w.heap[b]?) : PaR w' A ps := fun h0 => by
  obtain ⟨g, o, rfl, hg, hc⟩ := h h0
  have k := hk g rfl hg
  exact ⟨g, o, rfl, by omega, fun i hi => ⟨(World.cell?_of_block (w := w) k).trans (hc i hi).1, (World.cell?_of_block (w := w) k).trans (hc i hi).2⟩⟩
theorem PaR.plus (h : PaR w A ps) (hp : Plus w w') : PaR w' A ps := h.keep hp.below.size fun b _ hk => hp.below.block b hk
theorem Pa.plus (h : Pa w A ps n c) (hp : Plus w w') : Pa w' A ps n c := ⟨h.rd.plus hp, h.len, h.cap, h.max⟩
theorem Pa.nil (w : World) (c : Nat) (hc : c ≤ 9223372036854775807) (A : Option Addr) : Pa w A [] 0 c := ⟨fun h => absurd h (by simp), rfl, Nat.zero_le _, hc⟩
end
def PqRel (xs ys : List Pr) (s : Value) : Prop := ∃ k : Nat, k ≤ xs.length ∧ s = .int .i64 k ∧ xs.take k = ys.take k
set_option maxRecDepth 100000 in
set_option maxHeartbeats 4000000 in
theorem peq_n {A C : Option Addr} {xs ys : List Pr} {n c m d : Nat} {r : Bool} (w : World) (H : Hid (decide (xs = ys) = r)) (ha : Pa w A xs n c) (hb : Pa w C ys m d) :
    Calls Try.prog 40 #[.slice A n c, .slice C m d] w fun e w' => e = .returned (.bool r) ∧ Plus w w' := by
  rw [← H.out]
  clear H
  obtain ⟨hrd, hlen, hcap, hmax⟩ := ha
  obtain ⟨krd, klen, kcap, kmax⟩ := hb
  subst hlen klen
  by_cases hl : xs.length = ys.length
  · have b1 : ((xs.length : Int) != (ys.length : Int)) = false := by simp [hl]
    have HL := Lib.hid hl
    clear hl
    go_enter Try.func40, Try.ntmps40
    go_wp2
    go_loopw [13] (fun s13 wr => PqRel xs ys s13 ∧ Plus w wr) (fun s13 _ => ((xs.length : Int) - intOf s13).toNat)
    case atStart => exact ⟨⟨0, by omega, rfl, rfl⟩, Plus.refl _⟩
    case round =>
      obtain ⟨⟨k, hk, rfl, he⟩, hp⟩ := hrel
      by_cases hlt : k < xs.length
      · obtain ⟨g, o, rfl, hg, hat⟩ := hrd.plus hp (by omega)
        have hlt2 : k < ys.length := by rw [← HL.out]; exact hlt
        obtain ⟨g2, o2, rfl, hg2, hat2⟩ := krd.plus hp (by omega)
        obtain ⟨hc0, hc1⟩ := hat k hlt
        obtain ⟨hd0, hd1⟩ := hat2 k hlt2
        have HE := Lib.hid he
        have HP := Lib.hid hp
        clear he hat hat2 hp
        obtain ⟨v, hv⟩ : ∃ v, xs.getD k (0, 0) = v := ⟨_, rfl⟩
        obtain ⟨u, hu⟩ : ∃ u, ys.getD k (0, 0) = u := ⟨_, rfl⟩
        rw [hv] at hc0 hc1
        rw [hu] at hd0 hd1
        have HV := Lib.hid hv
        have HU := Lib.hid hu
        clear hv hu
        obtain ⟨v0, v1⟩ := v
        obtain ⟨u0, u1⟩ := u
        simp only at hc0 hc1 hd0 hd1
        have hadd := add_addr g o (k * 2)
        have hadd2 := add_addr g2 o2 (k * 2)
        have hadd3 := add_addr g (o + k * 2) 1
        have hadd4 := add_addr g2 (o2 + k * 2) 1
        by_cases hvu : v0 = u0 ∧ v1 = u1
        · obtain ⟨rfl, rfl⟩ := hvu
          have HT := Lib.hid (take_ext HE.out hlt hlt2 (HV.out.trans HU.out.symm))
          go_wp2_with fail
          go_quiet (fail)
          go_wp2_with fail
          go_roundw
          case rel => exact ⟨⟨k + 1, hlt, by rw [show ((k + 1 : Nat) : Int) = (k : Int) + 1 by omega], HT.out⟩, HP.out.drewN _⟩
          case measure => simp [intOf]; omega
        · have HN : Hid (decide (xs = ys) = false) := Lib.hid (by
            simp
            intro e
            subst e
            have q := HV.out.symm.trans HU.out
            injection q with q1 q2
            exact hvu ⟨q1, q2⟩)
          have hv2 : v0 ≠ u0 ∨ (v0 = u0 ∧ v1 ≠ u1) := by
            by_cases h : v0 = u0
            · exact .inr ⟨h, fun h2 => hvu ⟨h, h2⟩⟩
            · exact .inl h
          clear hvu
          rcases hv2 with h | ⟨rfl, h⟩
          · have b2 : (v0 == u0) = false := by simpa using h
            clear h
            go_wp2_with fail
            go_quiet (fail)
            go_wp2_with fail
            go_ret
            exact ⟨by rw [HN.out]; rfl, HP.out.drewN _⟩
          · have b2 : (v1 == u1) = false := by simpa using h
            clear h
            go_wp2_with fail
            go_quiet (fail)
            go_wp2_with fail
            go_ret
            exact ⟨by rw [HN.out]; rfl, HP.out.drewN _⟩
      · obtain rfl : k = xs.length := by omega
        have HR : Hid (decide (xs = ys) = true) := Lib.hid (by
          rw [List.take_length, HL.out, List.take_length] at he
          simpa using he)
        have HP := Lib.hid hp
        clear he hp
        go_wp2_with fail
        go_ret
        exact ⟨by rw [HR.out]; rfl, HP.out⟩
  · have b1 : ((xs.length : Int) != (ys.length : Int)) = true := by simp; omega
    have HN : Hid (decide (xs = ys) = false) := Lib.hid (by simp; intro e; subst e; exact hl rfl)
    go_enter Try.func40, Try.ntmps40
    go_wp2
    go_ret
    exact ⟨by rw [HN.out]; rfl, Plus.refl _⟩
end Go.Proofs.Ytcpmkfoelhopiaa
