/-
  NARROWER THAN 'FOR EVERY INPUT', by the rows' own cells (each row's printed sentence says how): RelTells: laid · RelParts: laid · ModelJudges: laid · ModelHeads: laid · ModelFlat: laid · ModelOrders: laid · ModelSeq: laid.
  DERIVED. THE GIVEN ROWS OF THIS SEAT. 7 by the template 'for every input the law returns true; each argument reads behind the call as it read before'; 0 by the template 'total and deterministic' (their statements: YtmfdlcicbiincaaDoorTotals.lean).
  GIVEN WITH THE SEED: the statements are not yours to turn. If you find one false, say at which input.
  Laid BY PROGRAM, IN A SANDBOX (cutbox-rows.mjs): the forced cells as the released guide's own fill.sh prints them over the translation 4ee4c8ad90fefb5b… (all of the seat's roots in one cut). By AI agents, Wed Nov 11 2026. No macro, syntax, notation, axiom, sorry.
-/
import Derived.Test.YtmfdlcicbiincaaDoorChecked
import GoSem.Claim
import GoSem.ClaimJoined
import GoSem.ClaimMapViews
import Derived.JoinedTies
import Derived.KernelRfl
namespace Go.Proofs.YtmfdlcicbiincaaDoor
/- THE CELL 'sum', in the pinned program and in every row, IS THE sha256 OF THE DUMP (.gsa) THAT YtmfdlcicbiincaaDoorProg.lean LOADS. Nothing in Lean hashes anything: it is a label: what it is worth is what the hold of that sum in a sandbox is worth. -/
noncomputable def Tryd.pinned : Pinned := { name := "ytmfdlcicbiincaadoor", sum := "4ee4c8ad90fefb5b1c2d266df92730d0c7018fcc04e5c8d851db99ad8494b905", checked := Tryd.checked }
namespace Rows
def none {H : Type} : Left H := { results := [], args := [] }

/- WHAT THE LISTED PACKAGE-LEVEL VARIABLES READ AS WHEN THE CALL BEGINS. Each datum BY PROGRAM (the guide's laid-datum.mjs) off the statement by which the dump's own 'gosem.cut.vars' lays the variable. In a bare row this is a premise. The card (YtmfdlcicbiincaaDoorCards.lean) ties it to the program's text. -/
def laid_math_bits_deBruijn64tab {H : Type} : DataW H := .agg [.lit (.int .u8 0), .lit (.int .u8 1), .lit (.int .u8 56), .lit (.int .u8 2), .lit (.int .u8 57), .lit (.int .u8 49), .lit (.int .u8 28), .lit (.int .u8 3), .lit (.int .u8 61), .lit (.int .u8 58), .lit (.int .u8 42), .lit (.int .u8 50), .lit (.int .u8 38), .lit (.int .u8 29), .lit (.int .u8 17), .lit (.int .u8 4), .lit (.int .u8 62), .lit (.int .u8 47), .lit (.int .u8 59), .lit (.int .u8 36), .lit (.int .u8 45), .lit (.int .u8 43), .lit (.int .u8 51), .lit (.int .u8 22), .lit (.int .u8 53), .lit (.int .u8 39), .lit (.int .u8 33), .lit (.int .u8 30), .lit (.int .u8 24), .lit (.int .u8 18), .lit (.int .u8 12), .lit (.int .u8 5), .lit (.int .u8 63), .lit (.int .u8 55), .lit (.int .u8 48), .lit (.int .u8 27), .lit (.int .u8 60), .lit (.int .u8 41), .lit (.int .u8 37), .lit (.int .u8 16), .lit (.int .u8 46), .lit (.int .u8 35), .lit (.int .u8 44), .lit (.int .u8 21), .lit (.int .u8 52), .lit (.int .u8 32), .lit (.int .u8 23), .lit (.int .u8 11), .lit (.int .u8 54), .lit (.int .u8 26), .lit (.int .u8 40), .lit (.int .u8 15), .lit (.int .u8 34), .lit (.int .u8 20), .lit (.int .u8 31), .lit (.int .u8 10), .lit (.int .u8 25), .lit (.int .u8 14), .lit (.int .u8 19), .lit (.int .u8 9), .lit (.int .u8 13), .lit (.int .u8 8), .lit (.int .u8 7), .lit (.int .u8 6)]

/-- 'renlaw15.RelTells': WHATEVER THE INPUT: true; the input reads as it did. -/
def relTellsSpec : ChangeSpec := { name := "relTells", fn := fun _ => fun
  | [d1, d2] => { results := [.lit (.bool true)], args := [d1, d2] }
  | _ => none }
def relTellsRow : OpenClaim := { program := "ytmfdlcicbiincaadoor", sum := "4ee4c8ad90fefb5b1c2d266df92730d0c7018fcc04e5c8d851db99ad8494b905", func := "rendezvous/renlaw15.RelTells", spec := "relTells", unfollowed := true, recurses := true, named := ["math/bits.deBruijn64tab"], apart := false, laid := [("math/bits.deBruijn64tab", laid_math_bits_deBruijn64tab)] }
def RelTellsSaid : Prop := relTellsRow.holds Tryd.pinned (OpenSpec.ofChange relTellsSpec)

/-- ITS FALSE NEIGHBOUR: 'it returns false'. Refute it at one input. -/
def relTellsWrong : ChangeSpec := { name := "relTells", fn := fun _ => fun
  | [d1, d2] => { results := [.lit (.bool false)], args := [d1, d2] }
  | _ => none }
def RelTellsWrongFalsely : Prop := relTellsRow.holds Tryd.pinned (OpenSpec.ofChange relTellsWrong)

/-- 'renlaw15.RelParts': WHATEVER THE INPUT: true; the input reads as it did. -/
def relPartsSpec : ChangeSpec := { name := "relParts", fn := fun _ => fun
  | [d] => { results := [.lit (.bool true)], args := [d] }
  | _ => none }
def relPartsRow : OpenClaim := { program := "ytmfdlcicbiincaadoor", sum := "4ee4c8ad90fefb5b1c2d266df92730d0c7018fcc04e5c8d851db99ad8494b905", func := "rendezvous/renlaw15.RelParts", spec := "relParts", unfollowed := true, recurses := true, named := ["math/bits.deBruijn64tab"], apart := false, laid := [("math/bits.deBruijn64tab", laid_math_bits_deBruijn64tab)] }
def RelPartsSaid : Prop := relPartsRow.holds Tryd.pinned (OpenSpec.ofChange relPartsSpec)

/-- ITS FALSE NEIGHBOUR: 'it returns false'. Refute it at one input. -/
def relPartsWrong : ChangeSpec := { name := "relParts", fn := fun _ => fun
  | [d] => { results := [.lit (.bool false)], args := [d] }
  | _ => none }
def RelPartsWrongFalsely : Prop := relPartsRow.holds Tryd.pinned (OpenSpec.ofChange relPartsWrong)

/-- 'renlaw16.ModelJudges': WHATEVER THE INPUT: true; the input reads as it did. -/
def modelJudgesSpec : ChangeSpec := { name := "modelJudges", fn := fun _ => fun
  | [d1, d2] => { results := [.lit (.bool true)], args := [d1, d2] }
  | _ => none }
def modelJudgesRow : OpenClaim := { program := "ytmfdlcicbiincaadoor", sum := "4ee4c8ad90fefb5b1c2d266df92730d0c7018fcc04e5c8d851db99ad8494b905", func := "rendezvous/renlaw16.ModelJudges", spec := "modelJudges", unfollowed := true, recurses := true, named := ["math/bits.deBruijn64tab"], apart := false, laid := [("math/bits.deBruijn64tab", laid_math_bits_deBruijn64tab)] }
def ModelJudgesSaid : Prop := modelJudgesRow.holds Tryd.pinned (OpenSpec.ofChange modelJudgesSpec)

/-- ITS FALSE NEIGHBOUR: 'it returns false'. Refute it at one input. -/
def modelJudgesWrong : ChangeSpec := { name := "modelJudges", fn := fun _ => fun
  | [d1, d2] => { results := [.lit (.bool false)], args := [d1, d2] }
  | _ => none }
def ModelJudgesWrongFalsely : Prop := modelJudgesRow.holds Tryd.pinned (OpenSpec.ofChange modelJudgesWrong)

/-- 'renlaw16.ModelHeads': WHATEVER THE INPUT: true; the input reads as it did. -/
def modelHeadsSpec : ChangeSpec := { name := "modelHeads", fn := fun _ => fun
  | [d1, d2] => { results := [.lit (.bool true)], args := [d1, d2] }
  | _ => none }
def modelHeadsRow : OpenClaim := { program := "ytmfdlcicbiincaadoor", sum := "4ee4c8ad90fefb5b1c2d266df92730d0c7018fcc04e5c8d851db99ad8494b905", func := "rendezvous/renlaw16.ModelHeads", spec := "modelHeads", unfollowed := true, recurses := true, named := ["math/bits.deBruijn64tab"], apart := false, laid := [("math/bits.deBruijn64tab", laid_math_bits_deBruijn64tab)] }
def ModelHeadsSaid : Prop := modelHeadsRow.holds Tryd.pinned (OpenSpec.ofChange modelHeadsSpec)

/-- ITS FALSE NEIGHBOUR: 'it returns false'. Refute it at one input. -/
def modelHeadsWrong : ChangeSpec := { name := "modelHeads", fn := fun _ => fun
  | [d1, d2] => { results := [.lit (.bool false)], args := [d1, d2] }
  | _ => none }
def ModelHeadsWrongFalsely : Prop := modelHeadsRow.holds Tryd.pinned (OpenSpec.ofChange modelHeadsWrong)

/-- 'renlaw16.ModelFlat': WHATEVER THE INPUT: true; the input reads as it did. -/
def modelFlatSpec : ChangeSpec := { name := "modelFlat", fn := fun _ => fun
  | [d1, d2, d3, d4] => { results := [.lit (.bool true)], args := [d1, d2, d3, d4] }
  | _ => none }
def modelFlatRow : OpenClaim := { program := "ytmfdlcicbiincaadoor", sum := "4ee4c8ad90fefb5b1c2d266df92730d0c7018fcc04e5c8d851db99ad8494b905", func := "rendezvous/renlaw16.ModelFlat", spec := "modelFlat", unfollowed := true, recurses := true, named := ["math/bits.deBruijn64tab"], apart := false, laid := [("math/bits.deBruijn64tab", laid_math_bits_deBruijn64tab)] }
def ModelFlatSaid : Prop := modelFlatRow.holds Tryd.pinned (OpenSpec.ofChange modelFlatSpec)

/-- ITS FALSE NEIGHBOUR: 'it returns false'. Refute it at one input. -/
def modelFlatWrong : ChangeSpec := { name := "modelFlat", fn := fun _ => fun
  | [d1, d2, d3, d4] => { results := [.lit (.bool false)], args := [d1, d2, d3, d4] }
  | _ => none }
def ModelFlatWrongFalsely : Prop := modelFlatRow.holds Tryd.pinned (OpenSpec.ofChange modelFlatWrong)

/-- 'renlaw16.ModelOrders': WHATEVER THE INPUT: true; the input reads as it did. -/
def modelOrdersSpec : ChangeSpec := { name := "modelOrders", fn := fun _ => fun
  | [d1, d2, d3] => { results := [.lit (.bool true)], args := [d1, d2, d3] }
  | _ => none }
def modelOrdersRow : OpenClaim := { program := "ytmfdlcicbiincaadoor", sum := "4ee4c8ad90fefb5b1c2d266df92730d0c7018fcc04e5c8d851db99ad8494b905", func := "rendezvous/renlaw16.ModelOrders", spec := "modelOrders", unfollowed := true, recurses := true, named := ["math/bits.deBruijn64tab"], apart := false, laid := [("math/bits.deBruijn64tab", laid_math_bits_deBruijn64tab)] }
def ModelOrdersSaid : Prop := modelOrdersRow.holds Tryd.pinned (OpenSpec.ofChange modelOrdersSpec)

/-- ITS FALSE NEIGHBOUR: 'it returns false'. Refute it at one input. -/
def modelOrdersWrong : ChangeSpec := { name := "modelOrders", fn := fun _ => fun
  | [d1, d2, d3] => { results := [.lit (.bool false)], args := [d1, d2, d3] }
  | _ => none }
def ModelOrdersWrongFalsely : Prop := modelOrdersRow.holds Tryd.pinned (OpenSpec.ofChange modelOrdersWrong)

/-- 'renlaw16.ModelSeq': WHATEVER THE INPUT: true; the input reads as it did. -/
def modelSeqSpec : ChangeSpec := { name := "modelSeq", fn := fun _ => fun
  | [d] => { results := [.lit (.bool true)], args := [d] }
  | _ => none }
def modelSeqRow : OpenClaim := { program := "ytmfdlcicbiincaadoor", sum := "4ee4c8ad90fefb5b1c2d266df92730d0c7018fcc04e5c8d851db99ad8494b905", func := "rendezvous/renlaw16.ModelSeq", spec := "modelSeq", unfollowed := true, recurses := true, named := ["math/bits.deBruijn64tab"], apart := false, laid := [("math/bits.deBruijn64tab", laid_math_bits_deBruijn64tab)] }
def ModelSeqSaid : Prop := modelSeqRow.holds Tryd.pinned (OpenSpec.ofChange modelSeqSpec)

/-- ITS FALSE NEIGHBOUR: 'it returns false'. Refute it at one input. -/
def modelSeqWrong : ChangeSpec := { name := "modelSeq", fn := fun _ => fun
  | [d] => { results := [.lit (.bool false)], args := [d] }
  | _ => none }
def ModelSeqWrongFalsely : Prop := modelSeqRow.holds Tryd.pinned (OpenSpec.ofChange modelSeqWrong)

/- THE SECOND FORM. 'bulk': how many values and letters a reading holds, each counted each time it is reached (what is shared counts as often as it is met; a slice's spare places count too). A statement '..UptoSaid' is the law's where the arguments, and the package variables that the reading takes, are together of bulk at most 1048576: NARROWER than '..Said'. Prove '..Said' where nothing that the law and all that it calls make is longer than what came in: it says more and counts as full. Else prove '..UptoSaid'. A law counts once. -/
mutual
def uptoBulk {H : Type} : DataW H → Nat
  | .lit (.string bytes) => bytes.length + 1
  | .lit _ => 1
  | .nil => 1
  | .ptr d => uptoBulk d + 1
  | .slice elems spare => uptoBulkAll elems + uptoBulkAll spare + 1
  | .agg parts => uptoBulkAll parts + 1
  | .iface _ d => uptoBulk d + 1
  | .map entries => uptoBulkEntries entries + 1
  | .held _ => 1
def uptoBulkAll {H : Type} : List (DataW H) → Nat
  | [] => 0
  | d :: r => uptoBulk d + uptoBulkAll r
def uptoBulkEntries {H : Type} : List (Lit × DataW H) → Nat
  | [] => 0
  | x :: r => uptoBulkEntry x + uptoBulkEntries r
def uptoBulkEntry {H : Type} : Lit × DataW H → Nat
  | (.string bytes, d) => bytes.length + uptoBulk d + 1
  | (_, d) => uptoBulk d + 1
 end
def uptoSmall : (H : Type) → List (DataW H) → Bool := fun _ ds => decide (uptoBulkAll ds ≤ 1048576)
def OpenSpec.upto (s : _root_.Go.ChangeSpec) : _root_.Go.OpenSpec := { _root_.Go.OpenSpec.ofChange s with cond := some uptoSmall }

/-- 'renlaw15.RelTells', WHERE WHAT IT READS IS OF BULK AT MOST 1048576: true; the input reads as it did. -/
def relTellsUptoRow : OpenClaim := { program := "ytmfdlcicbiincaadoor", sum := "4ee4c8ad90fefb5b1c2d266df92730d0c7018fcc04e5c8d851db99ad8494b905", func := "rendezvous/renlaw15.RelTells", spec := "relTells", unfollowed := true, recurses := true, named := ["math/bits.deBruijn64tab"], apart := false, laid := [("math/bits.deBruijn64tab", laid_math_bits_deBruijn64tab)], narrowed := true }
def RelTellsUptoSaid : Prop := relTellsUptoRow.holds Tryd.pinned (OpenSpec.upto relTellsSpec)

/-- 'renlaw15.RelParts', WHERE WHAT IT READS IS OF BULK AT MOST 1048576: true; the input reads as it did. -/
def relPartsUptoRow : OpenClaim := { program := "ytmfdlcicbiincaadoor", sum := "4ee4c8ad90fefb5b1c2d266df92730d0c7018fcc04e5c8d851db99ad8494b905", func := "rendezvous/renlaw15.RelParts", spec := "relParts", unfollowed := true, recurses := true, named := ["math/bits.deBruijn64tab"], apart := false, laid := [("math/bits.deBruijn64tab", laid_math_bits_deBruijn64tab)], narrowed := true }
def RelPartsUptoSaid : Prop := relPartsUptoRow.holds Tryd.pinned (OpenSpec.upto relPartsSpec)

/-- 'renlaw16.ModelJudges', WHERE WHAT IT READS IS OF BULK AT MOST 1048576: true; the input reads as it did. -/
def modelJudgesUptoRow : OpenClaim := { program := "ytmfdlcicbiincaadoor", sum := "4ee4c8ad90fefb5b1c2d266df92730d0c7018fcc04e5c8d851db99ad8494b905", func := "rendezvous/renlaw16.ModelJudges", spec := "modelJudges", unfollowed := true, recurses := true, named := ["math/bits.deBruijn64tab"], apart := false, laid := [("math/bits.deBruijn64tab", laid_math_bits_deBruijn64tab)], narrowed := true }
def ModelJudgesUptoSaid : Prop := modelJudgesUptoRow.holds Tryd.pinned (OpenSpec.upto modelJudgesSpec)

/-- 'renlaw16.ModelHeads', WHERE WHAT IT READS IS OF BULK AT MOST 1048576: true; the input reads as it did. -/
def modelHeadsUptoRow : OpenClaim := { program := "ytmfdlcicbiincaadoor", sum := "4ee4c8ad90fefb5b1c2d266df92730d0c7018fcc04e5c8d851db99ad8494b905", func := "rendezvous/renlaw16.ModelHeads", spec := "modelHeads", unfollowed := true, recurses := true, named := ["math/bits.deBruijn64tab"], apart := false, laid := [("math/bits.deBruijn64tab", laid_math_bits_deBruijn64tab)], narrowed := true }
def ModelHeadsUptoSaid : Prop := modelHeadsUptoRow.holds Tryd.pinned (OpenSpec.upto modelHeadsSpec)

/-- 'renlaw16.ModelFlat', WHERE WHAT IT READS IS OF BULK AT MOST 1048576: true; the input reads as it did. -/
def modelFlatUptoRow : OpenClaim := { program := "ytmfdlcicbiincaadoor", sum := "4ee4c8ad90fefb5b1c2d266df92730d0c7018fcc04e5c8d851db99ad8494b905", func := "rendezvous/renlaw16.ModelFlat", spec := "modelFlat", unfollowed := true, recurses := true, named := ["math/bits.deBruijn64tab"], apart := false, laid := [("math/bits.deBruijn64tab", laid_math_bits_deBruijn64tab)], narrowed := true }
def ModelFlatUptoSaid : Prop := modelFlatUptoRow.holds Tryd.pinned (OpenSpec.upto modelFlatSpec)

/-- 'renlaw16.ModelOrders', WHERE WHAT IT READS IS OF BULK AT MOST 1048576: true; the input reads as it did. -/
def modelOrdersUptoRow : OpenClaim := { program := "ytmfdlcicbiincaadoor", sum := "4ee4c8ad90fefb5b1c2d266df92730d0c7018fcc04e5c8d851db99ad8494b905", func := "rendezvous/renlaw16.ModelOrders", spec := "modelOrders", unfollowed := true, recurses := true, named := ["math/bits.deBruijn64tab"], apart := false, laid := [("math/bits.deBruijn64tab", laid_math_bits_deBruijn64tab)], narrowed := true }
def ModelOrdersUptoSaid : Prop := modelOrdersUptoRow.holds Tryd.pinned (OpenSpec.upto modelOrdersSpec)

/-- 'renlaw16.ModelSeq', WHERE WHAT IT READS IS OF BULK AT MOST 1048576: true; the input reads as it did. -/
def modelSeqUptoRow : OpenClaim := { program := "ytmfdlcicbiincaadoor", sum := "4ee4c8ad90fefb5b1c2d266df92730d0c7018fcc04e5c8d851db99ad8494b905", func := "rendezvous/renlaw16.ModelSeq", spec := "modelSeq", unfollowed := true, recurses := true, named := ["math/bits.deBruijn64tab"], apart := false, laid := [("math/bits.deBruijn64tab", laid_math_bits_deBruijn64tab)], narrowed := true }
def ModelSeqUptoSaid : Prop := modelSeqUptoRow.holds Tryd.pinned (OpenSpec.upto modelSeqSpec)

end Rows
end Go.Proofs.YtmfdlcicbiincaaDoor
