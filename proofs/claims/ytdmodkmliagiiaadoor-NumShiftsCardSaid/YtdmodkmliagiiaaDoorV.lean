/- The contracts again, each with its answer named by an equation. -/
import Derived.Test.YtdmodkmliagiiaaDoorF
import Derived.Test.YtdmodkmliagiiaaDoorB8
import Derived.Test.YtdmodkmliagiiaaDoorB6
import Derived.Test.YtdmodkmliagiiaaDoorB7
namespace Go.Proofs.YtdmodkmliagiiaaDoor
open Go.RowKit

theorem add_v {k n l m : Int} {x : Int} {y : Int} {o : Bool} (h : Hid (addR k n l m = ⟨x, y, o⟩)) (w : World) : Calls Tryd.prog 16 #[.agg #[.int .i64 k, .int .i64 n], .agg #[.int .i64 l, .int .i64 m]] w fun e w' => e = .returned (.tuple #[.agg #[.int .i64 x, .int .i64 y], .bool o]) ∧ Plus w w' := by
  have c := add_c k n l m w
  rw [h.out] at c
  exact c
theorem sub_v {k n l m : Int} {x : Int} {y : Int} {o : Bool} (h : Hid (subR k n l m = ⟨x, y, o⟩)) (w : World) : Calls Tryd.prog 18 #[.agg #[.int .i64 k, .int .i64 n], .agg #[.int .i64 l, .int .i64 m]] w fun e w' => e = .returned (.tuple #[.agg #[.int .i64 x, .int .i64 y], .bool o]) ∧ Plus w w' := by
  have c := sub_c k n l m w
  rw [h.out] at c
  exact c
theorem mul_v {k n l m : Int} {x : Int} {y : Int} {o : Bool} (h : Hid (mulR k n l m = ⟨x, y, o⟩)) (w : World) : Calls Tryd.prog 20 #[.agg #[.int .i64 k, .int .i64 n], .agg #[.int .i64 l, .int .i64 m]] w fun e w' => e = .returned (.tuple #[.agg #[.int .i64 x, .int .i64 y], .bool o]) ∧ Plus w w' := by
  have c := mul_c k n l m w
  rw [h.out] at c
  exact c
theorem div_v {k n l m : Int} {x : Int} {y : Int} {o : Bool} (h : Hid (divR k n l m = ⟨x, y, o⟩)) (w : World) : Calls Tryd.prog 22 #[.agg #[.int .i64 k, .int .i64 n], .agg #[.int .i64 l, .int .i64 m]] w fun e w' => e = .returned (.tuple #[.agg #[.int .i64 x, .int .i64 y], .bool o]) ∧ Plus w w' := by
  have c := div_c k n l m w
  rw [h.out] at c
  exact c
theorem rem_v {k n l m : Int} {x : Int} {y : Int} (h : Hid (remR k n l m = ⟨x, y⟩)) (w : World) : Calls Tryd.prog 28 #[.agg #[.int .i64 k, .int .i64 n], .agg #[.int .i64 l, .int .i64 m]] w fun e w' => e = .returned (.agg #[.int .i64 x, .int .i64 y]) ∧ Plus w w' := by
  have c := rem_c k n l m w
  rw [h.out] at c
  exact c
theorem neg_v {k n : Int} {x : Int} {y : Int} (h : Hid (negR k n = ⟨x, y⟩)) (w : World) : Calls Tryd.prog 30 #[.agg #[.int .i64 k, .int .i64 n]] w fun e w' => e = .returned (.agg #[.int .i64 x, .int .i64 y]) ∧ Plus w w' := by
  have c := neg_c k n w
  rw [h.out] at c
  exact c
theorem whole_v {k n : Int} {x : Int} {y : Int} (h : Hid (wholeR k n = ⟨x, y⟩)) (w : World) : Calls Tryd.prog 44 #[.agg #[.int .i64 k, .int .i64 n]] w fun e w' => e = .returned (.agg #[.int .i64 x, .int .i64 y]) ∧ Plus w w' := by
  have c := whole_c k n w
  rw [h.out] at c
  exact c
theorem bit_v {op k n l m : Int} {x : Int} {y : Int} (h : Hid (bitR op k n l m = ⟨x, y⟩)) (w : World) : Calls Tryd.prog 46 #[.int .i64 op, .agg #[.int .i64 k, .int .i64 n], .agg #[.int .i64 l, .int .i64 m]] w fun e w' => e = .returned (.agg #[.int .i64 x, .int .i64 y]) ∧ Plus w w' := by
  have c := bit_c op k n l m w
  rw [h.out] at c
  exact c
theorem less_v {k n l m : Int} {b : Bool} (h : Hid (lessR k n l m = b)) (w : World) : Calls Tryd.prog 32 #[.agg #[.int .i64 k, .int .i64 n], .agg #[.int .i64 l, .int .i64 m]] w fun e w' => e = .returned (.bool b) ∧ Plus w w' := by
  have c := less_c k n l m w
  rw [h.out] at c
  exact c
theorem equal_v {k n l m : Int} {b : Bool} (h : Hid (equalR k n l m = b)) (w : World) : Calls Tryd.prog 34 #[.agg #[.int .i64 k, .int .i64 n], .agg #[.int .i64 l, .int .i64 m]] w fun e w' => e = .returned (.bool b) ∧ Plus w w' := by
  have c := equal_c k n l m w
  rw [h.out] at c
  exact c
theorem same_v {k n l m : Int} {b : Bool} (h : Hid (sameR k n l m = b)) (w : World) : Calls Tryd.prog 36 #[.agg #[.int .i64 k, .int .i64 n], .agg #[.int .i64 l, .int .i64 m]] w fun e w' => e = .returned (.bool b) ∧ Plus w w' := by
  have c := same_c k n l m w
  rw [h.out] at c
  exact c
theorem may_v {k n : Int} {b : Bool} (h : Hid (mayB k n = b)) (w : World) : Calls Tryd.prog 24 #[.agg #[.int .i64 k, .int .i64 n]] w fun e w' => e = .returned (.bool b) ∧ Plus w w' := by
  have c := may_c k n w
  rw [h.out] at c
  exact c
theorem u32_v {k n : Int} {x : Int} (h : Hid (wordR k n = x)) (w : World) : Calls Tryd.prog 42 #[.agg #[.int .i64 k, .int .i64 n]] w fun e w' => e = .returned (.int .i64 x) ∧ Plus w w' := by
  have c := u32_c k n w
  rw [h.out] at c
  exact c
theorem i32_v {k n : Int} {x : Int} (h : Hid (i32R k n = x)) (w : World) : Calls Tryd.prog 40 #[.agg #[.int .i64 k, .int .i64 n]] w fun e w' => e = .returned (.int .i64 x) ∧ Plus w w' := by
  have c := i32_c k n w
  rw [h.out] at c
  exact c
theorem index_v {k n x : Int} {o : Bool} (h : Hid (indexR k n = x ∧ indexO k n = o)) (w : World) : Calls Tryd.prog 38 #[.agg #[.int .i64 k, .int .i64 n]] w fun e w' => e = .returned (.tuple #[.int .i64 x, .bool o]) ∧ Plus w w' := by
  have c := index_c k n w
  rw [h.out.1, h.out.2] at c
  exact c
end Go.Proofs.YtdmodkmliagiiaaDoor
