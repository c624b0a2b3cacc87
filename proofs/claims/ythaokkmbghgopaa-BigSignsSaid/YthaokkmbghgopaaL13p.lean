/- BigInts: contracts told by hidden names. -/
import Derived.Deep.RegionHeld3
import Derived.Test.YthaokkmbghgopaaC28
import Derived.Test.YthaokkmbghgopaaC29
namespace Go.Proofs.Ythaokkmbghgopaa
open Go.RowKit


def CmpI (a b v : Int) : Prop := cmpZ a b = v
def SameI (a b : Int) (v : Bool) : Prop := decide (a = b) = v
theorem cmp_o {an bn : Bool} {A C : Option Addr} {xs ys : List Nat} {n c m d : Nat} {a b : Int} (hA : Hid (bigI an xs = a)) (hB : Hid (bigI bn ys = b)) {v : Int} (hr : Hid (CmpI a b v)) (w : World) (ha : Arg w A xs n c) (hb : Arg w C ys m d) : Calls Try.prog 28 #[.agg #[.bool an, .slice A n c], .agg #[.bool bn, .slice C m d]] w fun e w' => e = .returned (.int .i64 v) ∧ Plus w w' := cmp_n hA hB hr w ha hb
theorem same_o {an bn : Bool} {A C : Option Addr} {xs ys : List Nat} {n c m d : Nat} {a b : Int} (hA : Hid (bigI an xs = a)) (hB : Hid (bigI bn ys = b)) {v : Bool} (hr : Hid (SameI a b v)) (w : World) (ha : Arg w A xs n c) (hb : Arg w C ys m d) : Calls Try.prog 30 #[.agg #[.bool an, .slice A n c], .agg #[.bool bn, .slice C m d]] w fun e w' => e = .returned (.bool v) ∧ Plus w w' := same_n hA hB hr w ha hb
end Go.Proofs.Ythaokkmbghgopaa
