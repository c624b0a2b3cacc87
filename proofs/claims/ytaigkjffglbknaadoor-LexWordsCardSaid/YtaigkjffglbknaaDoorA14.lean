/- Contracts: strings. -/
import Derived.Test.YtaigkjffglbknaaDoorA13
namespace Go.Proofs.YtaigkjffglbknaaDoor
open Go.RowKit


/-- What is left of the string. -/
def QuRel (xs : List Nat) (w : World) (s5 s6 : Value) (wr : World) : Prop :=
  ∃ (i m : Nat) (s : List Nat), s6 = .int .i64 i ∧ 1 ≤ i ∧ i ≤ xs.length + 6 ∧ wr.ownsRow (w.heap.size + 1) 40 1 s5 s.length (vals .u16 s) ∧ quoM xs 1 [] xs.length = quoM xs i s m ∧ xs.length ≤ i + m ∧ (∀ x ∈ s, x < 65536) ∧ s.length ≤ i ∧ Below (w.heap.size + 1) (w.alloc (.cells #[.int .i64 0, .string ⟨#[]⟩, .slice none 0 0, .int .i64 0, .int .i64 0, .bool false, .slice none 0 0, .int .i64 0, .bool false] 36)) wr
theorem escM_n (u : List Nat) : (escM u).n ≤ 5 := by
  have h : ∀ d, d ≤ 4 → (codE u d).n ≤ 5 := fun d hd => by
    unfold codE
    split
    · show 1 + d ≤ 5; omega
    · exact Nat.zero_le _
  unfold escM
  (repeat' split) <;> first | exact h _ (by decide) | (show (_ : Nat) ≤ 5; decide) | (show (0 : Nat) ≤ 5; decide) | (show (1 : Nat) ≤ 5; decide)
theorem codM_lt (u : List Nat) (v i j : Nat) (hv : v < 65536) : ∀ x, codM u v i j = some x → x < 65536 := by
  induction j generalizing v i with
  | zero => intro x h; cases h; exact hv
  | succ j ih =>
    intro x h
    rw [codM] at h
    split at h
    · exact ih _ _ (Nat.mod_lt _ (by decide)) x h
    · cases h
theorem ctlV_lt (c : Nat) (h : c < 65536) : ctlV c < 65536 := by unfold ctlV; (repeat' split) <;> omega
theorem escM_v (u : List Nat) (h : uAt u 0 < 65536) : (escM u).v < 65536 := by
  have hc : ∀ d, (codE u d).v < 65536 := fun d => by
    unfold codE
    split
    · rename_i v e; exact codM_lt u 0 1 d (by decide) v e
    · show 0 < 65536; decide
  unfold escM
  (repeat' split) <;> first | exact hc _ | exact ctlV_lt _ h | (show 0 < 65536; decide)
theorem quo_step (xs : List Nat) (i m : Nat) (s : List Nat) (h : i < xs.length) (hm : xs.length ≤ i + m) : ∃ f, m = f + 1 ∧ quoM xs i s m = if uAt xs i = uAt xs 0 then ⟨{ tk0 with k := 4, s := s }, i + 1, 0⟩
      else if isEnd (uAt xs i) then flt 5
      else if uAt xs i ≠ 92 then quoM xs (i + 1) (s ++ [uAt xs i]) f
      else if (escM (xs.drop (i + 1))).e ≠ 0 then flt (escM (xs.drop (i + 1))).e
      else quoM xs (i + (1 + (escM (xs.drop (i + 1))).n)) (s ++ [(escM (xs.drop (i + 1))).v]) f := by
  obtain ⟨f, rfl⟩ : ∃ f, m = f + 1 := ⟨m - 1, by omega⟩
  exact ⟨f, rfl, by rw [quoM, if_pos h]⟩
theorem quo_end (xs : List Nat) (i m : Nat) (s : List Nat) (h : ¬ i < xs.length) : quoM xs i s m = flt 5 := by
  cases m with
  | zero => rfl
  | succ m => rw [quoM, if_neg h]
theorem Ar.end {k : IntKind} {K : Nat} {w : World} {A B : Option Addr} {xs : List Nat} {n c : Nat} (h : Ar k K w A xs n c) {m : Nat} (hm : m ≤ n) (hc : c ≤ m) : Ar k K w B (xs.drop m) (n - m) 0 := by
  have h1 := h.len
  have h2 := h.cap
  have e : xs.drop m = [] := List.drop_eq_nil_of_le (by omega)
  rw [e]
  exact ⟨Rd.nil, by simp; omega, by omega, by decide, fun x hx => by simp at hx⟩
theorem ar_end0 {k : IntKind} {K : Nat} {w : World} {B : Option Addr} {xs : List Nat} {m : Nat} (hm : xs.length ≤ m) : Ar k K w B (xs.drop m) 0 0 := by
  have e : xs.drop m = [] := List.drop_eq_nil_of_le hm
  rw [e]
  exact ⟨Rd.nil, rfl, Nat.le_refl _, by decide, fun x hx => by simp at hx⟩
theorem zno16 {w : World} {x : More} : NoInt .u16 w.heap.size (plus (w.alloc (.cells #[.int .i64 0, .string ⟨#[]⟩, .slice none 0 0, .int .i64 0, .int .i64 0, .bool false, .slice none 0 0, .int .i64 0, .bool false] 36)) x) := noInt_of (C := #[.int .i64 0, .string ⟨#[]⟩, .slice none 0 0, .int .i64 0, .int .i64 0, .bool false, .slice none 0 0, .int .i64 0, .bool false]) (fun i => by simp only [go_sem]) rfl
theorem zno32 {w : World} {x : More} : NoInt .u32 w.heap.size (plus (w.alloc (.cells #[.int .i64 0, .string ⟨#[]⟩, .slice none 0 0, .int .i64 0, .int .i64 0, .bool false, .slice none 0 0, .int .i64 0, .bool false] 36)) x) := noInt_of (C := #[.int .i64 0, .string ⟨#[]⟩, .slice none 0 0, .int .i64 0, .int .i64 0, .bool false, .slice none 0 0, .int .i64 0, .bool false]) (fun i => by simp only [go_sem]) rfl
end Go.Proofs.YtaigkjffglbknaaDoor
