/- More plain functions: words of 32 bits. -/
import Derived.Test.YtdmodkmliagiiaaDoorS
namespace Go.Proofs.YtdmodkmliagiiaaDoor

theorem word_bd (k n : Int) : 0 ≤ wordR k n ∧ wordR k n < 4294967296 := by
  unfold wordR wordS; split <;> omega
/-- The word, read with a sign. -/
def i32R (k n : Int) : Int := if wordR k n < 2147483648 then wordR k n else wordR k n - 4294967296

end Go.Proofs.YtdmodkmliagiiaaDoor
