/- The document's May of a log in memory. -/
import Derived.Lib.Hide
import Derived.Test.YtmfdlcicbiincaaDoorR5
import Derived.Test.YtmfdlcicbiincaaDoorE17
namespace Go.Proofs.YtmfdlcicbiincaaDoor
open Go.RowKit


theorem rmay_s {l : List Ev} {ps : List Pr} {A B : Option Addr} {n c m d : Nat} {r : Bool} (w : World) (H : Hid (MayR l ps r)) (HS : Hid (SmL l)) (h : Lg w l ps A n c B m d) : Calls Tryd.prog 49 #[.agg #[.slice A n c, .slice B m d]] w fun e w' => e = .returned (.bool r) ∧ Plus w w' := by
  obtain ⟨rs, rfl, he⟩ := h.ev
  exact rmay_h w H he h.pa HS.out
end Go.Proofs.YtmfdlcicbiincaaDoor
