/- Rows of tokens, read; the document's comparison of units; texts. -/
import Derived.Test.YtaigkjffglbknaaDoorA21
namespace Go.Proofs.YtaigkjffglbknaaDoor
open Go.RowKit


/-- The slice at A reads as the tokens rs. -/
def RowA (w : World) (A : Option Addr) (rs : List TR) : Prop := 0 < rs.length → ∃ g, A = some ⟨g, 0, none⟩ ∧ g < w.heap.size ∧ ∀ k, k < rs.length * 9 → w.cell? ⟨g, k, none⟩ = (rowC rs)[k]?
theorem RowA.plus {w w' : World} {A : Option Addr} {rs : List TR} (h : RowA w A rs) (hp : Plus w w') : RowA w' A rs := fun h0 => by
  obtain ⟨g, e, hg, hc⟩ := h h0
  exact ⟨g, e, Nat.lt_of_lt_of_le hg hp.below.size, fun k hk => (World.cell?_of_block (w := w) (hp.below.block g hg)).trans (hc k hk)⟩
theorem row_read {w : World} {B : Nat} {v : Value} {rs : List TR} (h : w.ownsRow B 36 9 v rs.length (rowC rs)) : ∃ A c, v = .slice A rs.length c ∧ rs.length ≤ c ∧ c ≤ 9223372036854775807 ∧ RowA w A rs := by
  rcases h.2 with ⟨rfl, h0⟩ | ⟨g, cap, cur, rfl, hb, hg, hl, hm, hs, ht⟩
  · have : rs = [] := List.eq_nil_of_length_eq_zero h0
    subst this
    exact ⟨none, 0, rfl, Nat.le_refl _, by omega, fun h => absurd h (by simp)⟩
  · refine ⟨some ⟨g, 0, none⟩, cap, rfl, hl, by unfold maxLen at hm; exact hm, fun h0 => ⟨g, rfl, (Array.getElem?_eq_some_iff.1 hg).1, fun k hk => ?_⟩⟩
    rw [cell_of_row w g k cur 36 (0, 0) hg, ← ht, List.getElem?_take, if_pos hk]
    simp
/-- What Tokens returns, as a slice that reads. -/
def RetT (r : Tr) (w : World) (e : Ending) (w' : World) : Prop :=
  ∃ (A : Option Addr) (c : Nat) (rs : List TR), e = .returned (.tuple #[.slice A rs.length c, .int .i64 r.a, .int .i64 r.e]) ∧ rs.map (·.t) = r.l ∧ rs.length ≤ c ∧ c ≤ 9223372036854775807 ∧ RowA w' A rs ∧ (∀ r ∈ rs, TRM w' r) ∧ Plus w w'
theorem tokR_c (A : Option Addr) (xs : List Nat) (n c : Nat) (w : World) (h : Ar .u16 65536 w A xs n c) (hn : n ≤ 140737488355) (hL : Lai w) :
    Calls Tryd.prog 18 #[.slice A n c] w (RetT (tokM xs) w) :=
  (tok_c A xs n c w h hn hL).mono fun e w' ⟨v, rs, he, hm, ho, ht, hp⟩ => by
    obtain ⟨A, c, rfl, h1, h2, h3⟩ := row_read ho
    exact ⟨A, c, rs, he, hm, h1, h2, h3, ht, hp⟩
theorem row_get {rs : List TR} {i j : Nat} (hi : i < rs.length) (hj : j < 9) : (rowC rs)[i * 9 + j]? = (trC rs[i])[j]? := by
  induction rs generalizing i with
  | nil => simp at hi
  | cons r l ih =>
    unfold rowC
    rw [List.flatMap_cons]
    cases i with
    | zero =>
      rw [List.getElem?_append_left (by show _ < 9; omega)]
      simp
    | succ i =>
      rw [List.getElem?_append_right (by show 9 ≤ _; omega)]
      have e : (i + 1) * 9 + j - (trC r).length = i * 9 + j := by show (i + 1) * 9 + j - 9 = _; omega
      rw [e]
      exact ih (by simpa using hi)
/-- A token's cells. -/
theorem row_cell {w : World} {g : Nat} {rs : List TR} (hc : ∀ k, k < rs.length * 9 → w.cell? ⟨g, k, none⟩ = (rowC rs)[k]?) {i j : Nat} (hi : i < rs.length) (hj : j < 9) : w.cell? ⟨g, i * 9 + j, none⟩ = (trC rs[i])[j]? := by
  rw [hc _ (by omega), row_get hi hj]
/-- The texts of tokens, a blank behind each. -/
def txtB (ts : List Tk) : List UInt8 := ts.flatMap fun t => t.t.data.toList ++ [32]
theorem txtB_app (a b : List Tk) : txtB (a ++ b) = txtB a ++ txtB b := by unfold txtB; rw [List.flatMap_append]
theorem ba_app (S : List UInt8) (t : ByteArray) : (⟨S.toArray⟩ ++ (t ++ ⟨#[32]⟩) : ByteArray) = ⟨(S ++ (t.data.toList ++ [32])).toArray⟩ := by
  apply ByteArray.ext
  simp [ByteArray.data_append]
theorem txt_le {rs : List TR} {k : Nat} (h : k < rs.length) : (txtB ((rs.take k).map (·.t))).length + rs[k].t.t.size + 1 ≤ (txtB (rs.map (·.t))).length := by
  have e : rs.map (·.t) = (rs.take k).map (·.t) ++ ([rs[k].t] ++ (rs.drop (k + 1)).map (·.t)) := by
    have q : rs = rs.take k ++ rs[k] :: rs.drop (k + 1) := by rw [← List.drop_eq_getElem_cons h, List.take_append_drop]
    have q2 := congrArg (List.map (fun r : TR => r.t)) q
    rw [List.map_append, List.map_cons] at q2
    exact q2
  rw [e, txtB_app, txtB_app, List.length_append, List.length_append]
  have : (txtB [rs[k].t]).length = rs[k].t.t.size + 1 := by simp [txtB]
  omega
def TxRel (rs : List TR) (s3 s4 : Value) : Prop := ∃ k : Nat, k ≤ rs.length ∧ s4 = .int .i64 k ∧ s3 = .string ⟨(txtB ((rs.take k).map (·.t))).toArray⟩
set_option maxRecDepth 100000 in
set_option maxHeartbeats 2000000 in
theorem texts_c (A : Option Addr) (rs : List TR) (c : Nat) (w : World) (h : RowA w A rs) (hn : rs.length ≤ 4097) (hb : Hid ((txtB (rs.map (·.t))).length ≤ 1000000)) :
    Calls Tryd.prog 25 #[.slice A rs.length c] w fun e w' => e = .returned (.string ⟨(txtB (rs.map (·.t))).toArray⟩) ∧ w = w' := by
  go_enter Tryd.func25, Tryd.ntmps25
  go_wp2
  go_loop [3, 4] (fun s3 s4 => TxRel rs s3 s4) (fun _ s4 => ((rs.length : Int) - intOf s4).toNat)
  case atStart => exact ⟨0, by omega, rfl, rfl⟩
  case round =>
    obtain ⟨k, hk, rfl, rfl⟩ := hrel
    by_cases hlt : k < rs.length
    · obtain ⟨g, rfl, hg, hc⟩ := h (by omega)
      obtain ⟨r, hr⟩ : ∃ r, rs[k] = r := ⟨_, rfl⟩
      have hcell : w.cell? ⟨g, k * 9 + 1, none⟩ = some (.string r.t.t) := by
        have q := row_cell hc (i := k) (j := 1) hlt (by decide)
        rw [hr] at q
        exact q
      have HT : Hid ((rs.take (k + 1)).map (·.t) = (rs.take k).map (·.t) ++ [r.t]) := Lib.hid (by rw [List.take_succ_eq_append_getElem hlt, List.map_append, hr]; rfl)
      have HC := Lib.hid hc
      have hle := txt_le hlt
      rw [hr] at hle
      have hbb := hb.out
      obtain ⟨S, hS⟩ : ∃ S, txtB ((rs.take k).map (·.t)) = S := ⟨_, rfl⟩
      have HS := Lib.hid hS
      rw [hS] at hle ⊢
      have l1 : r.t.t.size ≤ 1000000 := by omega
      have l2 : S.length ≤ 1000000 := by omega
      clear hc hr hS hle hbb
      go_wp2
      go_round
      case rel => exact ⟨k + 1, hlt, by rw [show ((k + 1 : Nat) : Int) = (k : Int) + 1 by omega], by rw [ba_app, HT.out, txtB_app, HS.out]; simp [txtB]⟩
      case measure => simp [intOf]; omega
    · obtain rfl : k = rs.length := by omega
      go_wp2
      go_ret
      exact ⟨rfl, rfl⟩

def UnRel (xs ys : List Nat) (s5 : Value) : Prop := ∃ k : Nat, k ≤ xs.length ∧ s5 = .int .i64 k ∧ xs.take k = ys.take k
set_option maxRecDepth 100000 in
set_option maxHeartbeats 2000000 in
theorem runits_c (A C : Option Addr) (xs ys : List Nat) (n c m d : Nat) (w : World) (ha : Ar .u16 65536 w A xs n c) (hb : Ar .u16 65536 w C ys m d) :
    Calls Tryd.prog 19 #[.slice A n c, .slice C m d] w fun e w' => e = .returned (.bool (decide (xs = ys))) ∧ Plus w w' := by
  obtain ⟨hrd, hlen, hcap, hmax, hbd⟩ := ha
  obtain ⟨krd, klen, kcap, kmax, kbd⟩ := hb
  subst hlen klen
  by_cases hl : xs.length = ys.length
  · have b1 : ((xs.length : Int) != (ys.length : Int)) = false := by simp [hl]
    have HL := Lib.hid hl
    clear hl
    go_enter Tryd.func19, Tryd.ntmps19
    go_wp2
    go_loopw [5] (fun s5 wr => UnRel xs ys s5 ∧ Plus w wr) (fun s5 _ => ((xs.length : Int) - intOf s5).toNat)
    case atStart => exact ⟨⟨0, by omega, rfl, rfl⟩, Plus.refl _⟩
    case round =>
      obtain ⟨⟨k, hk, rfl, he⟩, hp⟩ := hrel
      by_cases hlt : k < xs.length
      · obtain ⟨g, o, rfl, hg, hat⟩ := hrd.at_ hlt
        have hlt2 : k < ys.length := by rw [← HL.out]; exact hlt
        obtain ⟨g2, o2, rfl, hg2, hat2⟩ := krd.at_ hlt2
        have hcell := hat.plus hg hp k hlt
        have hcell2 := hat2.plus hg2 hp k hlt2
        have hadd := add_addr g o k
        have hadd2 := add_addr g2 o2 k
        have HE := Lib.hid he
        have HP := Lib.hid hp
        clear he hat hat2 hp
        obtain ⟨v, hv⟩ : ∃ v, xs.getD k 0 = v := ⟨_, rfl⟩
        obtain ⟨u, hu⟩ : ∃ u, ys.getD k 0 = u := ⟨_, rfl⟩
        rw [hv] at hcell
        rw [hu] at hcell2
        have HV := Lib.hid hv
        have HU := Lib.hid hu
        clear hv hu
        by_cases hvu : v = u
        · subst hvu
          have HT := Lib.hid (take_ext HE.out hlt hlt2 (by rw [HV.out, HU.out]))
          go_wp2_with fail
          go_quiet (fail)
          go_wp2_with fail
          go_roundw
          case rel => exact ⟨⟨k + 1, hlt, by rw [show ((k + 1 : Nat) : Int) = (k : Int) + 1 by omega], HT.out⟩, HP.out.drewN _⟩
          case measure => simp [intOf]; omega
        · have b2 : ((v : Int) != (u : Int)) = true := by simp; omega
          have HN : Hid (decide (xs = ys) = false) := Lib.hid (by simp; intro e; subst e; exact hvu (HV.out.symm.trans HU.out))
          go_wp2_with fail
          go_quiet (fail)
          go_wp2_with fail
          go_ret
          exact ⟨by rw [HN.out]; rfl, HP.out.drewN _⟩
      · obtain rfl : k = xs.length := by omega
        have HR : Hid (decide (xs = ys) = true) := Lib.hid (by
          rw [List.take_length, HL.out, List.take_length] at he
          simpa using he)
        have HP := Lib.hid hp
        clear he hp
        go_wp2_with fail
        go_ret
        exact ⟨by rw [HR.out]; rfl, HP.out⟩
  · have b1 : ((xs.length : Int) != (ys.length : Int)) = true := by simp; omega
    have HN : Hid (decide (xs = ys) = false) := Lib.hid (by simp; intro e; subst e; exact hl rfl)
    go_enter Tryd.func19, Tryd.ntmps19
    go_wp2
    go_ret
    exact ⟨by rw [HN.out]; rfl, Plus.refl _⟩
end Go.Proofs.YtaigkjffglbknaaDoor
