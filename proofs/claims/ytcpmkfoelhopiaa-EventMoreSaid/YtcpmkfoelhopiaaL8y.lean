/- EventMore, at any log. -/
import Derived.WalkKit
import Derived.WalkSpells
import Derived.WalkLawsBesides
import Derived.Handy
import Derived.Deep.RegionHeld3
import Derived.Deep.DeepCutAuto
import Derived.Deep.QuietTactic
import Derived.BigQuiet
import Derived.Lib.Hide
import Derived.KernelRfl
import Derived.WalkMore
import Derived.Deep.LoopGhost
import Derived.IntWalk
import Derived.Test.YtcpmkfoelhopiaaL8w
import Derived.Test.YtcpmkfoelhopiaaL5w
namespace Go.Proofs.Ytcpmkfoelhopiaa
open Go.RowKit

theorem getD_snoc {l : List Ev} {x : Ev} {n : Nat} (hn : n < l.length) : (l ++ [x]).getD n default = l.getD n default := by
  rw [List.getD_eq_getElem?_getD, List.getD_eq_getElem?_getD, List.getElem?_append_left hn]
theorem getD_last (l : List Ev) (x : Ev) : (l ++ [x]).getD l.length default = x := by
  rw [List.getD_eq_getElem?_getD, List.getElem?_append_right (Nat.le_refl _), Nat.sub_self]
  rfl
theorem okEv_snoc {l : List Ev} {x : Ev} {n : Nat} (hn : n < l.length) : okEv (l ++ [x]) n ↔ okEv l n := by
  unfold okEv
  rw [getD_snoc hn, List.take_append_of_le_length (by omega)]
theorem okEv_last (l : List Ev) (x : Ev) : okEv (l ++ [x]) l.length ↔ (shapedM x = true ∧ ∀ i, i < x.f.length → readAt l x i) := by
  unfold okEv
  rw [getD_last, List.take_append_of_le_length (Nat.le_refl _), List.take_length]
theorem acc_snoc {l : List Ev} {x : Ev} (h : Acc l) : Acc (l ++ [x]) ↔ (shapedM x = true ∧ ∀ i, i < x.f.length → readAt l x i) := by
  rw [← okEv_last]
  constructor
  · intro q
    exact q l.length (by rw [List.length_append]; show l.length < l.length + 1; omega)
  · intro q n hn
    rw [List.length_append] at hn
    by_cases e : n = l.length
    · rw [e]; exact q
    · have hn2 : n < l.length := by
        have : n < l.length + 1 := hn
        omega
      exact (okEv_snoc hn2).2 (h n hn2)
theorem may_snoc {l : List Ev} {ps : List Pr} {x : Ev} (h : MayP l ps) (hl : l.length ≤ 300) : MayP (l ++ [x]) ps ↔ (shapedM x = true ∧ ∀ i, i < x.f.length → readAt l x i) := by
  obtain ⟨h1, h2, h3, h4⟩ := h
  rw [← acc_snoc h4]
  constructor
  · exact fun q => q.2.2.2
  · intro q
    refine ⟨by rw [List.length_append]; show l.length + 1 ≤ 1000; omega, h2, fun i hi => ⟨(h3 i hi).1, ?_⟩, q⟩
    have q2 := (h3 i hi).2
    rw [List.length_append]
    show amongM _ _ ((l.length + 1 : Nat) : Int) = true
    unfold amongM at q2 ⊢
    simp at q2 ⊢
    omega
theorem shp_len {e : Ev} (h : shapedM e = true) : e.r.length ≤ 20000 ∧ e.w.length ≤ 20000 ∧ e.f.length ≤ 20000 := by
  unfold shapedM at h
  simp only [Bool.and_eq_true] at h
  obtain ⟨⟨_, _⟩, h⟩ := h
  by_cases k0 : e.k = 0
  · rw [if_pos k0] at h
    have q := of_decide_eq_true h
    rw [q]
    simp [syncOf]
  · rw [if_neg k0] at h
    by_cases k1 : e.k = 1
    · rw [if_pos k1] at h
      unfold rangedM filledM at h
      simp only [Bool.and_eq_true, beq_iff_eq, decide_eq_true_eq] at h
      omega
    · rw [if_neg k1] at h
      by_cases k2 : e.k = 2
      · rw [if_pos k2] at h
        unfold rangedM filledM at h
        simp only [Bool.and_eq_true, beq_iff_eq, decide_eq_true_eq] at h
        omega
      · rw [if_neg k2] at h
        by_cases k3 : e.k = 3
        · rw [if_pos k3] at h
          unfold rangedM filledM at h
          simp only [Bool.and_eq_true, beq_iff_eq, decide_eq_true_eq] at h
          omega
        · rw [if_neg k3] at h
          cases h
theorem sml_may {l : List Ev} {ps : List Pr} (h : MayP l ps) : SmL l := fun x hx => by
  obtain ⟨i, hi, e⟩ := List.getElem_of_mem hx
  have q := (h.2.2.2 i hi).1
  rw [List.getD_eq_getElem?_getD, List.getElem?_eq_getElem hi] at q
  simp only [Option.getD_some] at q
  rw [e] at q
  exact shp_len q
theorem mayR_no {l : List Ev} {ps : List Pr} (h : ¬ MayP l ps) : MayR l ps false := ⟨fun q => absurd q h, fun q => by cases q⟩
theorem more_w {l : List Ev} {ps : List Pr} {A B : Option Addr} {n c m d : Nat} (q v : Int) (w : World) (H : Lg w l ps A n c B m d) (hv : By [v]) : Calls Try.prog 8 #[.agg #[.slice A n c, .slice B m d], .int .i64 q, .int .u8 v] w fun e w' => e = .returned (.bool true) ∧ Plus w w' := by
  obtain ⟨hn, hm⟩ := H.len
  obtain ⟨r0, hr⟩ := mayR_ex l ps
  by_cases h : r0 = false ∨ q < 0 ∨ 63 < q
  · exact more_l w (Lib.hid H) (Lib.hid hr) h
  · have hr0 : r0 = true := by
      cases r0
      · exact absurd (.inl rfl) h
      · rfl
    subst hr0
    have hM : MayP l ps := hr.2 rfl
    have hq0 : 0 ≤ q := by omega
    have hq1 : q ≤ 63 := by omega
    have h4 : l.take (hdN (n : Int) l.length) = l ∧ ps.filter (amB (hdN (n : Int) l.length)) = ps ∧ n = l.length ∧ m = ps.length := by
      have e : hdN (n : Int) l.length = l.length := by unfold hdN; omega
      rw [e]
      exact ⟨List.take_length, may_filter hM, hn, hm⟩
    have d1 : decide (0 ≤ q) = true := by simpa using hq0
    have d2 : decide (q < 64) = true := by simp; omega
    have ha : n ≤ 300 → MayR (l ++ [⟨q, 0, false, false, 0, 0, 0, [], [], []⟩]) ps true := fun hl => mayR_yes ((may_snoc hM (by omega)).2 ⟨by unfold shapedM; simp [syncOf, d1, d2], fun i hi => absurd hi (by simp)⟩)
    have hb : n ≤ 300 → MayR (l ++ [⟨q, 2, false, false, 0, 0, 1, [], [v], []⟩]) ps true := fun hl => mayR_yes ((may_snoc hM (by omega)).2 ⟨by unfold shapedM rangedM filledM; simp [d1, d2], fun i hi => absurd hi (by simp)⟩)
    have sc : ∀ f : Int, shapedM ⟨q, 1, false, false, 0, 0, 1, [v], [], [f]⟩ = true := fun f => by unfold shapedM rangedM filledM; simp [d1, d2]
    have hd : n ≤ 300 → MayR (l ++ [⟨q, 1, false, false, 0, 0, 1, [v], [], [(n : Int)]⟩]) ps false := fun hl => mayR_no (fun hh => by
      have q1 := ((may_snoc hM (by omega)).1 hh).2 0 (by show 0 < 1; omega)
      unfold readAt originM at q1
      simp only [List.getD_cons_zero] at q1
      rw [if_neg (by omega), if_pos (.inr (by omega))] at q1
      cases q1)
    have rc : readAt l ⟨q, 1, false, false, 0, 0, 1, [v], [], [-1]⟩ 0 ↔ v = 0 := by
      unfold readAt originM
      simp only [List.getD_cons_zero, if_true]
      constructor
      · intro h
        injection h with h
        exact h.symm
      · intro h
        rw [h]
    by_cases hz : v = 0
    · have hc : n ≤ 300 → MayR (l ++ [⟨q, 1, false, false, 0, 0, 1, [v], [], [-1]⟩]) ps true := fun hl => mayR_yes ((may_snoc hM (by omega)).2 ⟨sc _, fun i hi => by
        have hi0 : i = 0 := by
          have : i < 1 := hi
          omega
        rw [hi0]
        exact rc.2 hz⟩)
      exact more_z w (Lib.hid H) (Lib.hid hr) hq0 hq1 (Lib.hid (sml_may hM)) (Lib.hid h4) (by have := hM.2.1; omega) (Lib.hid hv) (Lib.hid ha) (Lib.hid hb) (Lib.hid hc) (Lib.hid hd) (by simpa using hz)
    · have hc : n ≤ 300 → MayR (l ++ [⟨q, 1, false, false, 0, 0, 1, [v], [], [-1]⟩]) ps false := fun hl => mayR_no (fun hh => hz (rc.1 (((may_snoc hM (by omega)).1 hh).2 0 (by show 0 < 1; omega))))
      exact more_n w (Lib.hid H) (Lib.hid hr) hq0 hq1 (Lib.hid (sml_may hM)) (Lib.hid h4) (by have := hM.2.1; omega) (Lib.hid hv) (Lib.hid ha) (Lib.hid hb) (Lib.hid hc) (Lib.hid hd) (by simpa using hz)
theorem by_w {v : Int} (h : (Lit.int .u8 v).wf = true) : By [v] := by_of (fun x hx => by
  obtain rfl := List.mem_singleton.1 hx
  exact h)
end Go.Proofs.Ytcpmkfoelhopiaa
