/-
  NARROWER THAN 'FOR EVERY INPUT', by the rows' own cells (each row's printed sentence says how): RelTells: laid · RelRanges: laid · RelGoes: laid · RelHeads: laid · RelParts: laid · RelEdges: laid.
  DERIVED. THE GIVEN ROWS OF THIS SEAT. 6 by the template 'for every input the law returns true; each argument reads behind the call as it read before'; 0 by the template 'total and deterministic' (their statements: YtmpecnhmdjilkaaDoorTotals.lean).
  GIVEN WITH THE SEED: the statements are not yours to turn. If you find one false, say at which input.
  Laid BY PROGRAM, IN A SANDBOX (cutbox-rows.mjs): the forced cells as the released guide's own fill.sh prints them over the translation f67f98d1165d6212… (all of the seat's roots in one cut). By AI agents, Wed Nov 11 2026. No macro, syntax, notation, axiom, sorry.
-/
import Derived.Test.YtmpecnhmdjilkaaDoorChecked
import GoSem.Claim
import GoSem.ClaimJoined
import GoSem.ClaimMapViews
import Derived.JoinedTies
import Derived.KernelRfl
namespace Go.Proofs.YtmpecnhmdjilkaaDoor
/- THE CELL 'sum', in the pinned program and in every row, IS THE sha256 OF THE DUMP (.gsa) THAT YtmpecnhmdjilkaaDoorProg.lean LOADS. Nothing in Lean hashes anything: it is a label: what it is worth is what the hold of that sum in a sandbox is worth. -/
noncomputable def Tryd.pinned : Pinned := { name := "ytmpecnhmdjilkaadoor", sum := "f67f98d1165d6212eb5fd57a2b8bea8e976b2daa6b9880fa6964150409837b9e", checked := Tryd.checked }
namespace Rows
def none {H : Type} : Left H := { results := [], args := [] }

/- WHAT THE LISTED PACKAGE-LEVEL VARIABLES READ AS WHEN THE CALL BEGINS. Each datum BY PROGRAM (the guide's laid-datum.mjs) off the statement by which the dump's own 'gosem.cut.vars' lays the variable. In a bare row this is a premise. The card (YtmpecnhmdjilkaaDoorCards.lean) ties it to the program's text. -/
def laid_math_bits_deBruijn64tab {H : Type} : DataW H := .agg [.lit (.int .u8 0), .lit (.int .u8 1), .lit (.int .u8 56), .lit (.int .u8 2), .lit (.int .u8 57), .lit (.int .u8 49), .lit (.int .u8 28), .lit (.int .u8 3), .lit (.int .u8 61), .lit (.int .u8 58), .lit (.int .u8 42), .lit (.int .u8 50), .lit (.int .u8 38), .lit (.int .u8 29), .lit (.int .u8 17), .lit (.int .u8 4), .lit (.int .u8 62), .lit (.int .u8 47), .lit (.int .u8 59), .lit (.int .u8 36), .lit (.int .u8 45), .lit (.int .u8 43), .lit (.int .u8 51), .lit (.int .u8 22), .lit (.int .u8 53), .lit (.int .u8 39), .lit (.int .u8 33), .lit (.int .u8 30), .lit (.int .u8 24), .lit (.int .u8 18), .lit (.int .u8 12), .lit (.int .u8 5), .lit (.int .u8 63), .lit (.int .u8 55), .lit (.int .u8 48), .lit (.int .u8 27), .lit (.int .u8 60), .lit (.int .u8 41), .lit (.int .u8 37), .lit (.int .u8 16), .lit (.int .u8 46), .lit (.int .u8 35), .lit (.int .u8 44), .lit (.int .u8 21), .lit (.int .u8 52), .lit (.int .u8 32), .lit (.int .u8 23), .lit (.int .u8 11), .lit (.int .u8 54), .lit (.int .u8 26), .lit (.int .u8 40), .lit (.int .u8 15), .lit (.int .u8 34), .lit (.int .u8 20), .lit (.int .u8 31), .lit (.int .u8 10), .lit (.int .u8 25), .lit (.int .u8 14), .lit (.int .u8 19), .lit (.int .u8 9), .lit (.int .u8 13), .lit (.int .u8 8), .lit (.int .u8 7), .lit (.int .u8 6)]

/-- 'renlaw15.RelTells': WHATEVER THE INPUT: true; the input reads as it did. -/
def relTellsSpec : ChangeSpec := { name := "relTells", fn := fun _ => fun
  | [d1, d2] => { results := [.lit (.bool true)], args := [d1, d2] }
  | _ => none }
def relTellsRow : OpenClaim := { program := "ytmpecnhmdjilkaadoor", sum := "f67f98d1165d6212eb5fd57a2b8bea8e976b2daa6b9880fa6964150409837b9e", func := "rendezvous/renlaw15.RelTells", spec := "relTells", unfollowed := true, recurses := true, named := ["math/bits.deBruijn64tab"], apart := false, laid := [("math/bits.deBruijn64tab", laid_math_bits_deBruijn64tab)] }
def RelTellsSaid : Prop := relTellsRow.holds Tryd.pinned (OpenSpec.ofChange relTellsSpec)

/-- ITS FALSE NEIGHBOUR: 'it returns false'. Refute it at one input. -/
def relTellsWrong : ChangeSpec := { name := "relTells", fn := fun _ => fun
  | [d1, d2] => { results := [.lit (.bool false)], args := [d1, d2] }
  | _ => none }
def RelTellsWrongFalsely : Prop := relTellsRow.holds Tryd.pinned (OpenSpec.ofChange relTellsWrong)

/-- 'renlaw15.RelRanges': WHATEVER THE INPUT: true; the input reads as it did. -/
def relRangesSpec : ChangeSpec := { name := "relRanges", fn := fun _ => fun
  | [d1, d2] => { results := [.lit (.bool true)], args := [d1, d2] }
  | _ => none }
def relRangesRow : OpenClaim := { program := "ytmpecnhmdjilkaadoor", sum := "f67f98d1165d6212eb5fd57a2b8bea8e976b2daa6b9880fa6964150409837b9e", func := "rendezvous/renlaw15.RelRanges", spec := "relRanges", unfollowed := true, recurses := true, named := ["math/bits.deBruijn64tab"], apart := false, laid := [("math/bits.deBruijn64tab", laid_math_bits_deBruijn64tab)] }
def RelRangesSaid : Prop := relRangesRow.holds Tryd.pinned (OpenSpec.ofChange relRangesSpec)

/-- ITS FALSE NEIGHBOUR: 'it returns false'. Refute it at one input. -/
def relRangesWrong : ChangeSpec := { name := "relRanges", fn := fun _ => fun
  | [d1, d2] => { results := [.lit (.bool false)], args := [d1, d2] }
  | _ => none }
def RelRangesWrongFalsely : Prop := relRangesRow.holds Tryd.pinned (OpenSpec.ofChange relRangesWrong)

/-- 'renlaw15.RelGoes': WHATEVER THE INPUT: true; the input reads as it did. -/
def relGoesSpec : ChangeSpec := { name := "relGoes", fn := fun _ => fun
  | [d] => { results := [.lit (.bool true)], args := [d] }
  | _ => none }
def relGoesRow : OpenClaim := { program := "ytmpecnhmdjilkaadoor", sum := "f67f98d1165d6212eb5fd57a2b8bea8e976b2daa6b9880fa6964150409837b9e", func := "rendezvous/renlaw15.RelGoes", spec := "relGoes", unfollowed := true, recurses := true, named := ["math/bits.deBruijn64tab"], apart := false, laid := [("math/bits.deBruijn64tab", laid_math_bits_deBruijn64tab)] }
def RelGoesSaid : Prop := relGoesRow.holds Tryd.pinned (OpenSpec.ofChange relGoesSpec)

/-- ITS FALSE NEIGHBOUR: 'it returns false'. Refute it at one input. -/
def relGoesWrong : ChangeSpec := { name := "relGoes", fn := fun _ => fun
  | [d] => { results := [.lit (.bool false)], args := [d] }
  | _ => none }
def RelGoesWrongFalsely : Prop := relGoesRow.holds Tryd.pinned (OpenSpec.ofChange relGoesWrong)

/-- 'renlaw15.RelHeads': WHATEVER THE INPUT: true; the input reads as it did. -/
def relHeadsSpec : ChangeSpec := { name := "relHeads", fn := fun _ => fun
  | [d1, d2] => { results := [.lit (.bool true)], args := [d1, d2] }
  | _ => none }
def relHeadsRow : OpenClaim := { program := "ytmpecnhmdjilkaadoor", sum := "f67f98d1165d6212eb5fd57a2b8bea8e976b2daa6b9880fa6964150409837b9e", func := "rendezvous/renlaw15.RelHeads", spec := "relHeads", unfollowed := true, recurses := true, named := ["math/bits.deBruijn64tab"], apart := false, laid := [("math/bits.deBruijn64tab", laid_math_bits_deBruijn64tab)] }
def RelHeadsSaid : Prop := relHeadsRow.holds Tryd.pinned (OpenSpec.ofChange relHeadsSpec)

/-- ITS FALSE NEIGHBOUR: 'it returns false'. Refute it at one input. -/
def relHeadsWrong : ChangeSpec := { name := "relHeads", fn := fun _ => fun
  | [d1, d2] => { results := [.lit (.bool false)], args := [d1, d2] }
  | _ => none }
def RelHeadsWrongFalsely : Prop := relHeadsRow.holds Tryd.pinned (OpenSpec.ofChange relHeadsWrong)

/-- 'renlaw15.RelParts': WHATEVER THE INPUT: true; the input reads as it did. -/
def relPartsSpec : ChangeSpec := { name := "relParts", fn := fun _ => fun
  | [d] => { results := [.lit (.bool true)], args := [d] }
  | _ => none }
def relPartsRow : OpenClaim := { program := "ytmpecnhmdjilkaadoor", sum := "f67f98d1165d6212eb5fd57a2b8bea8e976b2daa6b9880fa6964150409837b9e", func := "rendezvous/renlaw15.RelParts", spec := "relParts", unfollowed := true, recurses := true, named := ["math/bits.deBruijn64tab"], apart := false, laid := [("math/bits.deBruijn64tab", laid_math_bits_deBruijn64tab)] }
def RelPartsSaid : Prop := relPartsRow.holds Tryd.pinned (OpenSpec.ofChange relPartsSpec)

/-- ITS FALSE NEIGHBOUR: 'it returns false'. Refute it at one input. -/
def relPartsWrong : ChangeSpec := { name := "relParts", fn := fun _ => fun
  | [d] => { results := [.lit (.bool false)], args := [d] }
  | _ => none }
def RelPartsWrongFalsely : Prop := relPartsRow.holds Tryd.pinned (OpenSpec.ofChange relPartsWrong)

/-- 'renlaw15.RelEdges': WHATEVER THE INPUT: true; the input reads as it did. -/
def relEdgesSpec : ChangeSpec := { name := "relEdges", fn := fun _ => fun
  | [d1, d2, d3] => { results := [.lit (.bool true)], args := [d1, d2, d3] }
  | _ => none }
def relEdgesRow : OpenClaim := { program := "ytmpecnhmdjilkaadoor", sum := "f67f98d1165d6212eb5fd57a2b8bea8e976b2daa6b9880fa6964150409837b9e", func := "rendezvous/renlaw15.RelEdges", spec := "relEdges", unfollowed := true, recurses := true, named := ["math/bits.deBruijn64tab"], apart := false, laid := [("math/bits.deBruijn64tab", laid_math_bits_deBruijn64tab)] }
def RelEdgesSaid : Prop := relEdgesRow.holds Tryd.pinned (OpenSpec.ofChange relEdgesSpec)

/-- ITS FALSE NEIGHBOUR: 'it returns false'. Refute it at one input. -/
def relEdgesWrong : ChangeSpec := { name := "relEdges", fn := fun _ => fun
  | [d1, d2, d3] => { results := [.lit (.bool false)], args := [d1, d2, d3] }
  | _ => none }
def RelEdgesWrongFalsely : Prop := relEdgesRow.holds Tryd.pinned (OpenSpec.ofChange relEdgesWrong)

/- THE SECOND FORM. 'bulk': how many values and letters a reading holds, each counted each time it is reached (what is shared counts as often as it is met; a slice's spare places count too). A statement '..UptoSaid' is the law's where the arguments, and the package variables that the reading takes, are together of bulk at most 1048576: NARROWER than '..Said'. Prove '..Said' where nothing that the law and all that it calls make is longer than what came in: it says more and counts as full. Else prove '..UptoSaid'. A law counts once. -/
mutual
def uptoBulk {H : Type} : DataW H → Nat
  | .lit (.string bytes) => bytes.length + 1
  | .lit _ => 1
  | .nil => 1
  | .ptr d => uptoBulk d + 1
  | .slice elems spare => uptoBulkAll elems + uptoBulkAll spare + 1
  | .agg parts => uptoBulkAll parts + 1
  | .iface _ d => uptoBulk d + 1
  | .map entries => uptoBulkEntries entries + 1
  | .held _ => 1
def uptoBulkAll {H : Type} : List (DataW H) → Nat
  | [] => 0
  | d :: r => uptoBulk d + uptoBulkAll r
def uptoBulkEntries {H : Type} : List (Lit × DataW H) → Nat
  | [] => 0
  | x :: r => uptoBulkEntry x + uptoBulkEntries r
def uptoBulkEntry {H : Type} : Lit × DataW H → Nat
  | (.string bytes, d) => bytes.length + uptoBulk d + 1
  | (_, d) => uptoBulk d + 1
 end
def uptoSmall : (H : Type) → List (DataW H) → Bool := fun _ ds => decide (uptoBulkAll ds ≤ 1048576)
def OpenSpec.upto (s : _root_.Go.ChangeSpec) : _root_.Go.OpenSpec := { _root_.Go.OpenSpec.ofChange s with cond := some uptoSmall }

/-- 'renlaw15.RelTells', WHERE WHAT IT READS IS OF BULK AT MOST 1048576: true; the input reads as it did. -/
def relTellsUptoRow : OpenClaim := { program := "ytmpecnhmdjilkaadoor", sum := "f67f98d1165d6212eb5fd57a2b8bea8e976b2daa6b9880fa6964150409837b9e", func := "rendezvous/renlaw15.RelTells", spec := "relTells", unfollowed := true, recurses := true, named := ["math/bits.deBruijn64tab"], apart := false, laid := [("math/bits.deBruijn64tab", laid_math_bits_deBruijn64tab)], narrowed := true }
def RelTellsUptoSaid : Prop := relTellsUptoRow.holds Tryd.pinned (OpenSpec.upto relTellsSpec)

/-- 'renlaw15.RelRanges', WHERE WHAT IT READS IS OF BULK AT MOST 1048576: true; the input reads as it did. -/
def relRangesUptoRow : OpenClaim := { program := "ytmpecnhmdjilkaadoor", sum := "f67f98d1165d6212eb5fd57a2b8bea8e976b2daa6b9880fa6964150409837b9e", func := "rendezvous/renlaw15.RelRanges", spec := "relRanges", unfollowed := true, recurses := true, named := ["math/bits.deBruijn64tab"], apart := false, laid := [("math/bits.deBruijn64tab", laid_math_bits_deBruijn64tab)], narrowed := true }
def RelRangesUptoSaid : Prop := relRangesUptoRow.holds Tryd.pinned (OpenSpec.upto relRangesSpec)

/-- 'renlaw15.RelGoes', WHERE WHAT IT READS IS OF BULK AT MOST 1048576: true; the input reads as it did. -/
def relGoesUptoRow : OpenClaim := { program := "ytmpecnhmdjilkaadoor", sum := "f67f98d1165d6212eb5fd57a2b8bea8e976b2daa6b9880fa6964150409837b9e", func := "rendezvous/renlaw15.RelGoes", spec := "relGoes", unfollowed := true, recurses := true, named := ["math/bits.deBruijn64tab"], apart := false, laid := [("math/bits.deBruijn64tab", laid_math_bits_deBruijn64tab)], narrowed := true }
def RelGoesUptoSaid : Prop := relGoesUptoRow.holds Tryd.pinned (OpenSpec.upto relGoesSpec)

/-- 'renlaw15.RelHeads', WHERE WHAT IT READS IS OF BULK AT MOST 1048576: true; the input reads as it did. -/
def relHeadsUptoRow : OpenClaim := { program := "ytmpecnhmdjilkaadoor", sum := "f67f98d1165d6212eb5fd57a2b8bea8e976b2daa6b9880fa6964150409837b9e", func := "rendezvous/renlaw15.RelHeads", spec := "relHeads", unfollowed := true, recurses := true, named := ["math/bits.deBruijn64tab"], apart := false, laid := [("math/bits.deBruijn64tab", laid_math_bits_deBruijn64tab)], narrowed := true }
def RelHeadsUptoSaid : Prop := relHeadsUptoRow.holds Tryd.pinned (OpenSpec.upto relHeadsSpec)

/-- 'renlaw15.RelParts', WHERE WHAT IT READS IS OF BULK AT MOST 1048576: true; the input reads as it did. -/
def relPartsUptoRow : OpenClaim := { program := "ytmpecnhmdjilkaadoor", sum := "f67f98d1165d6212eb5fd57a2b8bea8e976b2daa6b9880fa6964150409837b9e", func := "rendezvous/renlaw15.RelParts", spec := "relParts", unfollowed := true, recurses := true, named := ["math/bits.deBruijn64tab"], apart := false, laid := [("math/bits.deBruijn64tab", laid_math_bits_deBruijn64tab)], narrowed := true }
def RelPartsUptoSaid : Prop := relPartsUptoRow.holds Tryd.pinned (OpenSpec.upto relPartsSpec)

/-- 'renlaw15.RelEdges', WHERE WHAT IT READS IS OF BULK AT MOST 1048576: true; the input reads as it did. -/
def relEdgesUptoRow : OpenClaim := { program := "ytmpecnhmdjilkaadoor", sum := "f67f98d1165d6212eb5fd57a2b8bea8e976b2daa6b9880fa6964150409837b9e", func := "rendezvous/renlaw15.RelEdges", spec := "relEdges", unfollowed := true, recurses := true, named := ["math/bits.deBruijn64tab"], apart := false, laid := [("math/bits.deBruijn64tab", laid_math_bits_deBruijn64tab)], narrowed := true }
def RelEdgesUptoSaid : Prop := relEdgesUptoRow.holds Tryd.pinned (OpenSpec.upto relEdgesSpec)

end Rows
end Go.Proofs.YtmpecnhmdjilkaaDoor
