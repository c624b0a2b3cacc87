/- Contracts: what is skipped. -/
import Derived.Test.YtaigkjffglbknaaDoorA5
namespace Go.Proofs.YtaigkjffglbknaaDoor
open Go.RowKit


def cmtV (r : Sk) : Value := .tuple #[.int .i64 r.n, .bool r.l, .int .i64 r.e]
def CmRel (xs : List Nat) (s3 s12 : Value) : Prop := ∃ k : Nat, k ≤ xs.length ∧ s12 = .int .i64 k ∧ s3 = .bool ((xs.take k).any isEnd) ∧ (xs.take k).any isSep = false
theorem any_take {p : Nat → Bool} {xs : List Nat} {k : Nat} (hk : k < xs.length) : (xs.take (k + 1)).any p = ((xs.take k).any p || p (xs.getD k 0)) := by
  have e : xs.getD k 0 = xs[k] := by rw [List.getD_eq_getElem?_getD, List.getElem?_eq_getElem hk]; rfl
  rw [List.take_succ_eq_append_getElem hk, List.any_append, e]
  simp
theorem any_hit {p : Nat → Bool} {xs : List Nat} {k : Nat} (hk : k < xs.length) (h : p (xs.getD k 0) = true) : xs.any p = true :=
  List.any_eq_true.2 ⟨_, getD_mem hk, h⟩
set_option maxRecDepth 100000 in
set_option maxHeartbeats 2000000 in
theorem cmt_c (A : Option Addr) (xs : List Nat) (n c : Nat) (w : World) (h : Ar .u16 65536 w A xs n c) :
    Calls Tryd.prog 41 #[.slice A n c] w fun e w' => e = .returned (cmtV (cmtM xs)) ∧ w = w' := by
  obtain ⟨hrd, hlen, hcap, hmax, hbd⟩ := h
  subst hlen
  by_cases h0 : xs.length = 0
  · have hx : xs = [] := List.eq_nil_of_length_eq_zero h0
    subst hx
    go_enter Tryd.func41, Tryd.ntmps41
    go_wp2
    go_ret3
    exact ⟨rfl, rfl⟩
  have hne : xs.isEmpty = false := by cases xs with
    | nil => exact absurd rfl h0
    | cons _ _ => rfl
  have HNE := Lib.hid hne
  have h0' : ((xs.length : Int) == 0) = false := by simp; intro e; subst e; exact h0 rfl
  clear hne
  go_enter Tryd.func41, Tryd.ntmps41
  go_wp2
  clear h0'
  go_loop [3, 12] (fun s3 s12 => CmRel xs s3 s12) (fun _ s12 => ((xs.length : Int) - intOf s12).toNat)
  case atStart => exact ⟨0, by omega, rfl, rfl, rfl⟩
  case round =>
    obtain ⟨k, hk, rfl, rfl, hs⟩ := hrel
    have HS := Lib.hid hs
    clear hs
    obtain ⟨b, hb⟩ : ∃ b, (xs.take k).any isEnd = b := ⟨_, rfl⟩
    rw [hb]
    have HB := Lib.hid hb
    clear hb
    by_cases hlt : k < xs.length
    · obtain ⟨g, o, rfl, hg, hat⟩ := hrd.at_ hlt
      have hcell := hat k hlt
      have hadd := add_addr g o k
      obtain ⟨v, hv⟩ : ∃ v, xs.getD k 0 = v := ⟨_, rfl⟩
      rw [hv] at hcell
      have hvb : v < 65536 := by rw [← hv]; exact hbd _ (getD_mem hlt)
      have HV := Lib.hid hv
      have HAT := Lib.hid hat
      clear hat hv
      obtain ⟨q, hq⟩ : ∃ q, isSep v = q := ⟨_, rfl⟩
      have HQ := Lib.hid hq
      clear hq
      cases q
      · obtain ⟨d, hd⟩ : ∃ d, isEnd v = d := ⟨_, rfl⟩
        have HD := Lib.hid hd
        clear hd
        have HS2 : Hid ((xs.take (k + 1)).any isSep = false) := Lib.hid (by rw [any_take hlt, HS.out, HV.out, HQ.out]; rfl)
        have HB2 : Hid ((xs.take (k + 1)).any isEnd = (b || d)) := Lib.hid (by rw [any_take hlt, HB.out, HV.out, HD.out])
        cases b
        all_goals
          go_wp2_with (first | (go_at_call 55; (with_reducible refine (isSep_c v hvb _).mono ?_); rintro e w1 ⟨rfl, rfl⟩; rw [HQ.out]) | (go_at_call 39; (with_reducible refine (isEnd_c v hvb _).mono ?_); rintro e w1 ⟨rfl, rfl⟩; rw [HD.out]))
          go_round
          case rel => exact ⟨k + 1, hlt, by rw [show ((k + 1 : Nat) : Int) = (k : Int) + 1 by omega], by rw [HB2.out]; rfl, HS2.out⟩
          case measure => simp [intOf]; omega
      · have HR : Hid (cmtM xs = ⟨0, false, 6⟩) := Lib.hid (by unfold cmtM; rw [HNE.out, any_hit hlt (by rw [HV.out]; exact HQ.out)]; rfl)
        go_wp2_with (go_at_call 55; (with_reducible refine (isSep_c v hvb _).mono ?_); rintro e w1 ⟨rfl, rfl⟩; rw [HQ.out])
        go_ret3
        exact ⟨by rw [HR.out]; rfl, rfl⟩
    · obtain rfl : k = xs.length := by omega
      have HR : Hid (cmtM xs = ⟨xs.length, b, 0⟩) := Lib.hid (by
        have q1 := HS.out
        have q2 := HB.out
        rw [List.take_length] at q1 q2
        unfold cmtM
        rw [HNE.out, q1, q2]
        rfl)
      go_wp2
      go_ret3
      exact ⟨by rw [HR.out]; rfl, rfl⟩
end Go.Proofs.YtaigkjffglbknaaDoor
