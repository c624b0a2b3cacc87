/- LexRemarks: all ways. -/
import Derived.Deep.QuietTactic
import Derived.BigQuiet
import Derived.IntWalk
import Derived.Test.YtaigkjffglbknaaDoorL10x
import Derived.Test.YtaigkjffglbknaaDoorL10y
import Derived.Test.YtaigkjffglbknaaDoorL10z
namespace Go.Proofs.YtaigkjffglbknaaDoor
open Go.RowKit


theorem opK_no {xs : List Nat} : ∀ {k : Nat}, opK xs k = false → ∀ j, j < k → ¬ (uAt xs j = 47 ∧ uAt xs (j + 1) = 47) := by
  intro k
  induction k with
  | zero => intro _ j hj; omega
  | succ k ih =>
    intro h j hj
    unfold opK at h
    rw [Bool.or_eq_false_iff] at h
    by_cases q : j = k
    · subst q
      rintro ⟨h1, h2⟩
      have := h.2
      rw [h1, h2] at this
      cases this
    · exact ih h.1 j (by omega)
theorem open_no {xs : List Nat} (h : opK xs (xs.length - 1) = false) : ∀ a, a < xs.length → begB (xs.drop a) [47, 47] = false := by
  intro a ha
  unfold begB
  apply decide_eq_false
  intro e
  have hl : ((xs.drop a).take 2).length = 2 := by rw [show [47, 47].length = 2 from rfl] at e; rw [e]; rfl
  rw [List.length_take, List.length_drop] at hl
  have g0 : uAt xs a = 47 := by
    have h1 := congrArg (fun l : List Nat => l.getD 0 0) e
    simp only [List.getD_eq_getElem?_getD, List.length_cons, List.length_nil] at h1
    rw [List.getElem?_take_of_lt (by omega), List.getElem?_drop] at h1
    unfold uAt
    rw [List.getD_eq_getElem?_getD]
    simpa using h1
  have g1 : uAt xs (a + 1) = 47 := by
    have h1 := congrArg (fun l : List Nat => l.getD 1 0) e
    simp only [List.getD_eq_getElem?_getD, List.length_cons, List.length_nil] at h1
    rw [List.getElem?_take_of_lt (by omega), List.getElem?_drop] at h1
    unfold uAt
    rw [List.getD_eq_getElem?_getD]
    simpa using h1
  exact opK_no h a (by omega) ⟨g0, g1⟩
theorem last_k {xs : List Nat} {k : Nat} (h1 : xs.length ≤ k + 1) (h2 : k = 0 ∨ k < xs.length) : k = xs.length - 1 := by omega
def RemWay (xs ys zs : List Nat) (c : Nat) : Prop :=
  (∃ p p2 er : Nat, er ≠ 0 ∧ p ≤ 5000 ∧ p2 = p + (zs.length + 4) ∧ tokM ((xs ++ [c]) ++ ys) = ⟨[], p, er⟩ ∧ tokM ((xs ++ (([32, 47, 42] ++ zs) ++ [42, 47])) ++ ys) = ⟨[], p2, er⟩) ∨
  (∃ L2 L3 : List Tk, L3.length = L2.length ∧ L2.length ≤ 5000 ∧ (∀ k (q1 : k < L2.length) (q2 : k < L3.length), (L2[k].a ≤ xs.length ∧ L3[k] = L2[k]) ∨ (xs.length < L2[k].a ∧ L2[k].a ≤ 5000 ∧ L3[k] = mv (zs.length + 4) L2[k])) ∧
    tokM ((xs ++ [c]) ++ ys) = ⟨L2, 0, 0⟩ ∧ tokM ((xs ++ (([32, 47, 42] ++ zs) ++ [42, 47])) ++ ys) = ⟨L3, 0, 0⟩)
theorem rem_way (xs ys zs : List Nat) (c : Nat) (hc : c = 32 ∨ c = 10) (hx : xs.length ≤ 1000) (hy : ys.length ≤ 1000) (hz : zs.length ≤ 1000) (hu : (tokM xs).e = 0) (hG : zs.any inB = false) (hE : zs.any isEnd = decide (c = 10)) (hO : opK xs (xs.length - 1) = false) : RemWay xs ys zs c := by
  have g : ∀ x ∈ zs, inB x = false := fun x hx => by simpa using List.any_eq_false.1 hG x hx
  obtain ⟨acc, nl, R, e1, e2, e3, b1, b2, b3, b4, b5, b6⟩ := tok_rem xs ys zs c hc hu (by omega) (fun h => by have := g 42 h; cases this) (fun x hx => by have := g x hx; simp [inB] at this; simp [isSep]; omega) hE (open_no hO)
  have e2' : tokM ((xs ++ [c]) ++ ys) = behind acc (mvR xs.length R) := by rw [List.append_assoc, List.singleton_append]; exact e2
  have e3' : tokM ((xs ++ (([32, 47, 42] ++ zs) ++ [42, 47])) ++ ys) = behind acc (mvR (xs.length + zs.length + 4) R) := by
    have : (xs ++ (([32, 47, 42] ++ zs) ++ [42, 47])) ++ ys = xs ++ 32 :: 47 :: 42 :: (zs ++ 42 :: 47 :: ys) := by simp
    rw [this]; exact e3
  by_cases h : R.e = 0
  · right
    refine ⟨acc ++ R.l.map (mv xs.length), acc ++ R.l.map (mv (xs.length + zs.length + 4)), by simp, by simp; omega, ?_, ?_, ?_⟩
    · intro k q1 q2
      by_cases hk : k < acc.length
      · left
        rw [List.getElem_append_left hk, List.getElem_append_left hk]
        exact ⟨b1 _ (List.getElem_mem hk), rfl⟩
      · right
        have hk2 : k - acc.length < R.l.length := by simp at q1; omega
        rw [List.getElem_append_right (by omega), List.getElem_append_right (by omega), List.getElem_map, List.getElem_map]
        obtain ⟨c1, c2⟩ := b2 _ (List.getElem_mem hk2)
        generalize R.l[k - acc.length] = T at c1 c2
        refine ⟨?_, ?_, ?_⟩
        · show xs.length < T.a + xs.length; omega
        · show T.a + xs.length ≤ 5000; omega
        · unfold mv
          dsimp only
          rw [show T.a + (xs.length + zs.length + 4) = T.a + xs.length + (zs.length + 4) by omega]
    · rw [e2']; unfold behind mvR; simp [h]
    · rw [e3']; unfold behind mvR; simp [h]
  · left
    have hl := b6 h
    refine ⟨R.a + xs.length, _, R.e, h, by omega, rfl, ?_, ?_⟩
    · rw [e2']; unfold behind mvR; simp [h]
    · rw [e3']; unfold behind mvR; simp [h]; omega

theorem rem_go (A1 A2 A3 : Option Addr) (xs ys zs : List Nat) (n c m d q b : Nat) (w : World) (hL : Lai w) (h1 : Ar .u16 65536 w A1 xs n c) (h2 : Ar .u16 65536 w A2 ys m d) (h3 : Ar .u16 65536 w A3 zs q b) : Calls Tryd.prog 10 #[.slice A1 n c, .slice A2 m d, .slice A3 q b] w fun e w' => e = .returned (.bool true) ∧ Plus w w' := by
  have HL := Lib.hid hL
  have ha := Lib.hid h1
  have hb := Lib.hid h2
  have hc := Lib.hid h3
  have l1 := h1.len
  have l2 := h2.len
  have l3 := h3.len
  by_cases hn : n ≤ 1000
  · have dn : decide ((1000 : Int) < (n : Int)) = false := by simp; omega
    by_cases hm : m ≤ 1000
    · have dm : decide ((1000 : Int) < (m : Int)) = false := by simp; omega
      by_cases hq : q ≤ 1000
      · have dq : decide ((1000 : Int) < (q : Int)) = false := by simp; omega
        by_cases hG' : zs.any inB = true
        · exact rem_bad A1 A2 A3 xs ys zs n c m d q b w HL ha hb hc hn hm hq dn dm dq (Lib.hid hG')
        have hG : zs.any inB = false := by simpa using hG'
        by_cases hE' : zs.any isEnd = true
        · have hE := hE'
          by_cases hu : (tokM xs).e = 0
          · obtain ⟨x1, x2, x3, x4, x5⟩ := bd_of xs (by omega)
            have T1 : tokM xs = ⟨(tokM xs).l, 0, 0⟩ := by
              have q1 := (x4 hu).1
              generalize tokM xs = r at hu q1
              obtain ⟨l, a, er⟩ := r
              dsimp only at hu q1
              rw [hu, q1]
            by_cases hO : opK xs (xs.length - 1) = true
            · exact rem_opt A1 A2 A3 xs ys zs n c m d q b w HL ha hb hc hn hm hq dn dm dq (Lib.hid hG) (Lib.hid hE) _ (Lib.hid T1) (Lib.hid fun k k1 k2 => by rw [last_k k1 k2]; exact hO)
            · have hO' : opK xs (xs.length - 1) = false := by simpa using hO
              rcases rem_way xs ys zs 10 (by decide) (by omega) (by omega) (by omega) hu hG (by rw [hE]; rfl) hO' with ⟨p, p2, er, r1, r2, r3, r4, r5⟩ | ⟨L2, L3, r1, r2, r3, r4, r5⟩
              · exact rem_evt A1 A2 A3 xs ys zs n c m d q b w HL ha hb hc hn hm hq dn dm dq (Lib.hid hG) (Lib.hid hE) _ (Lib.hid T1) (Lib.hid fun k k1 k2 => by rw [last_k k1 k2]; exact hO') p p2 er _ _ _ (Lib.hid rfl) (Lib.hid rfl) (Lib.hid rfl) (by omega) (by omega) (by simpa using r1) (by omega) (Lib.hid r4) (Lib.hid r5)
              · exact rem_okt A1 A2 A3 xs ys zs n c m d q b w HL ha hb hc hn hm hq dn dm dq (Lib.hid hG) (Lib.hid hE) _ (Lib.hid T1) (Lib.hid fun k k1 k2 => by rw [last_k k1 k2]; exact hO') L2 L3 r1 r2 (Lib.hid r3) (Lib.hid r4) (Lib.hid r5)
          · obtain ⟨x1, x2, x3, x4, x5⟩ := bd_of xs (by omega)
            have T1 : tokM xs = ⟨[], (tokM xs).a, (tokM xs).e⟩ := by
              have q1 := x5 hu
              generalize tokM xs = r at q1
              obtain ⟨l, a, er⟩ := r
              dsimp only at q1
              rw [q1]
            exact rem_eut A1 A2 A3 xs ys zs n c m d q b w HL ha hb hc hn hm hq dn dm dq (Lib.hid hG) (Lib.hid hE) _ _ _ (Lib.hid rfl) (by simpa using hu) (Lib.hid T1)
        · have hE : zs.any isEnd = false := by simpa using hE'
          by_cases hu : (tokM xs).e = 0
          · obtain ⟨x1, x2, x3, x4, x5⟩ := bd_of xs (by omega)
            have T1 : tokM xs = ⟨(tokM xs).l, 0, 0⟩ := by
              have q1 := (x4 hu).1
              generalize tokM xs = r at hu q1
              obtain ⟨l, a, er⟩ := r
              dsimp only at hu q1
              rw [hu, q1]
            by_cases hO : opK xs (xs.length - 1) = true
            · exact rem_opf A1 A2 A3 xs ys zs n c m d q b w HL ha hb hc hn hm hq dn dm dq (Lib.hid hG) (Lib.hid hE) _ (Lib.hid T1) (Lib.hid fun k k1 k2 => by rw [last_k k1 k2]; exact hO)
            · have hO' : opK xs (xs.length - 1) = false := by simpa using hO
              rcases rem_way xs ys zs 32 (by decide) (by omega) (by omega) (by omega) hu hG (by rw [hE]; rfl) hO' with ⟨p, p2, er, r1, r2, r3, r4, r5⟩ | ⟨L2, L3, r1, r2, r3, r4, r5⟩
              · exact rem_evf A1 A2 A3 xs ys zs n c m d q b w HL ha hb hc hn hm hq dn dm dq (Lib.hid hG) (Lib.hid hE) _ (Lib.hid T1) (Lib.hid fun k k1 k2 => by rw [last_k k1 k2]; exact hO') p p2 er _ _ _ (Lib.hid rfl) (Lib.hid rfl) (Lib.hid rfl) (by omega) (by omega) (by simpa using r1) (by omega) (Lib.hid r4) (Lib.hid r5)
              · exact rem_okf A1 A2 A3 xs ys zs n c m d q b w HL ha hb hc hn hm hq dn dm dq (Lib.hid hG) (Lib.hid hE) _ (Lib.hid T1) (Lib.hid fun k k1 k2 => by rw [last_k k1 k2]; exact hO') L2 L3 r1 r2 (Lib.hid r3) (Lib.hid r4) (Lib.hid r5)
          · obtain ⟨x1, x2, x3, x4, x5⟩ := bd_of xs (by omega)
            have T1 : tokM xs = ⟨[], (tokM xs).a, (tokM xs).e⟩ := by
              have q1 := x5 hu
              generalize tokM xs = r at q1
              obtain ⟨l, a, er⟩ := r
              dsimp only at q1
              rw [q1]
            exact rem_euf A1 A2 A3 xs ys zs n c m d q b w HL ha hb hc hn hm hq dn dm dq (Lib.hid hG) (Lib.hid hE) _ _ _ (Lib.hid rfl) (by simpa using hu) (Lib.hid T1)
      · exact rem_fq A1 A2 A3 n c m d q b w HL dn dm (by simp; omega)
    · exact rem_fm A1 A2 A3 n c m d q b w HL dn (by simp; omega)
  · exact rem_fn A1 A2 A3 n c m d q b w HL (by simp; omega)
end Go.Proofs.YtaigkjffglbknaaDoor
