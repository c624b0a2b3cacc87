/-
  No cell of these rows narrows 'for every input' (looked for: loops, veiled, ifaces, maps, wideKeys, modest, calm, conditions, laid).
  DERIVED. THE GIVEN ROWS OF THIS SEAT. 9 by the template 'for every input the law returns true; each argument reads behind the call as it read before'; 0 by the template 'total and deterministic' (their statements: YtjojkogmbgppcaaTotals.lean).
  GIVEN WITH THE SEED: the statements are not yours to turn. If you find one false, say at which input.
  Laid BY PROGRAM, IN A SANDBOX (cutbox-rows.mjs): the forced cells as the released guide's own fill.sh prints them over the translation 95ab8dce87bc71bf… (all of the seat's roots in one cut). By AI agents, Wed Nov 11 2026. No macro, syntax, notation, axiom, sorry.
-/
import Derived.Test.YtjojkogmbgppcaaChecked
import GoSem.Claim
import GoSem.ClaimJoined
import GoSem.ClaimMapViews
import Derived.JoinedTies
import Derived.KernelRfl
namespace Go.Proofs.Ytjojkogmbgppcaa
/- THE CELL 'sum', in the pinned program and in every row, IS THE sha256 OF THE DUMP (.gsa) THAT YtjojkogmbgppcaaProg.lean LOADS. Nothing in Lean hashes anything: it is a label: what it is worth is what the hold of that sum in a sandbox is worth. -/
noncomputable def Try.pinned : Pinned := { name := "ytjojkogmbgppcaa", sum := "95ab8dce87bc71bffb33bb8db398369b42760e16e3747ab73e3190cf948e41bd", checked := Try.checked }
namespace Rows
def none {H : Type} : Left H := { results := [], args := [] }

/-- 'renlaw4.ElemWords': WHATEVER THE INPUT: true; the input reads as it did. -/
def elemWordsSpec : ChangeSpec := { name := "elemWords", fn := fun _ => fun
  | [d1, d2, d3] => { results := [.lit (.bool true)], args := [d1, d2, d3] }
  | _ => none }
def elemWordsRow : OpenClaim := { program := "ytjojkogmbgppcaa", sum := "95ab8dce87bc71bffb33bb8db398369b42760e16e3747ab73e3190cf948e41bd", func := "rendezvous/renlaw4.ElemWords", spec := "elemWords", unfollowed := true, recurses := true, apart := false }
def ElemWordsSaid : Prop := elemWordsRow.holds Try.pinned (OpenSpec.ofChange elemWordsSpec)

/-- ITS FALSE NEIGHBOUR: 'it returns false'. Refute it at one input. -/
def elemWordsWrong : ChangeSpec := { name := "elemWords", fn := fun _ => fun
  | [d1, d2, d3] => { results := [.lit (.bool false)], args := [d1, d2, d3] }
  | _ => none }
def ElemWordsWrongFalsely : Prop := elemWordsRow.holds Try.pinned (OpenSpec.ofChange elemWordsWrong)

/-- 'renlaw4.ElemValues': WHATEVER THE INPUT: true; the input reads as it did. -/
def elemValuesSpec : ChangeSpec := { name := "elemValues", fn := fun _ => fun
  | [d1, d2, d3, d4] => { results := [.lit (.bool true)], args := [d1, d2, d3, d4] }
  | _ => none }
def elemValuesRow : OpenClaim := { program := "ytjojkogmbgppcaa", sum := "95ab8dce87bc71bffb33bb8db398369b42760e16e3747ab73e3190cf948e41bd", func := "rendezvous/renlaw4.ElemValues", spec := "elemValues", unfollowed := true, recurses := true, apart := false }
def ElemValuesSaid : Prop := elemValuesRow.holds Try.pinned (OpenSpec.ofChange elemValuesSpec)

/-- ITS FALSE NEIGHBOUR: 'it returns false'. Refute it at one input. -/
def elemValuesWrong : ChangeSpec := { name := "elemValues", fn := fun _ => fun
  | [d1, d2, d3, d4] => { results := [.lit (.bool false)], args := [d1, d2, d3, d4] }
  | _ => none }
def ElemValuesWrongFalsely : Prop := elemValuesRow.holds Try.pinned (OpenSpec.ofChange elemValuesWrong)

/-- 'renlaw4.ElemChanges': WHATEVER THE INPUT: true; the input reads as it did. -/
def elemChangesSpec : ChangeSpec := { name := "elemChanges", fn := fun _ => fun
  | [d1, d2, d3, d4] => { results := [.lit (.bool true)], args := [d1, d2, d3, d4] }
  | _ => none }
def elemChangesRow : OpenClaim := { program := "ytjojkogmbgppcaa", sum := "95ab8dce87bc71bffb33bb8db398369b42760e16e3747ab73e3190cf948e41bd", func := "rendezvous/renlaw4.ElemChanges", spec := "elemChanges", unfollowed := true, recurses := true, apart := false }
def ElemChangesSaid : Prop := elemChangesRow.holds Try.pinned (OpenSpec.ofChange elemChangesSpec)

/-- ITS FALSE NEIGHBOUR: 'it returns false'. Refute it at one input. -/
def elemChangesWrong : ChangeSpec := { name := "elemChanges", fn := fun _ => fun
  | [d1, d2, d3, d4] => { results := [.lit (.bool false)], args := [d1, d2, d3, d4] }
  | _ => none }
def ElemChangesWrongFalsely : Prop := elemChangesRow.holds Try.pinned (OpenSpec.ofChange elemChangesWrong)

/-- 'renlaw4.ElemBack': WHATEVER THE INPUT: true; the input reads as it did. -/
def elemBackSpec : ChangeSpec := { name := "elemBack", fn := fun _ => fun
  | [d1, d2, d3] => { results := [.lit (.bool true)], args := [d1, d2, d3] }
  | _ => none }
def elemBackRow : OpenClaim := { program := "ytjojkogmbgppcaa", sum := "95ab8dce87bc71bffb33bb8db398369b42760e16e3747ab73e3190cf948e41bd", func := "rendezvous/renlaw4.ElemBack", spec := "elemBack", unfollowed := true, recurses := true, apart := false }
def ElemBackSaid : Prop := elemBackRow.holds Try.pinned (OpenSpec.ofChange elemBackSpec)

/-- ITS FALSE NEIGHBOUR: 'it returns false'. Refute it at one input. -/
def elemBackWrong : ChangeSpec := { name := "elemBack", fn := fun _ => fun
  | [d1, d2, d3] => { results := [.lit (.bool false)], args := [d1, d2, d3] }
  | _ => none }
def ElemBackWrongFalsely : Prop := elemBackRow.holds Try.pinned (OpenSpec.ofChange elemBackWrong)

/-- 'renlaw4.ElemBounds': WHATEVER THE INPUT: true; the input reads as it did. -/
def elemBoundsSpec : ChangeSpec := { name := "elemBounds", fn := fun _ => fun
  | [d1, d2, d3] => { results := [.lit (.bool true)], args := [d1, d2, d3] }
  | _ => none }
def elemBoundsRow : OpenClaim := { program := "ytjojkogmbgppcaa", sum := "95ab8dce87bc71bffb33bb8db398369b42760e16e3747ab73e3190cf948e41bd", func := "rendezvous/renlaw4.ElemBounds", spec := "elemBounds", unfollowed := true, recurses := true, apart := false }
def ElemBoundsSaid : Prop := elemBoundsRow.holds Try.pinned (OpenSpec.ofChange elemBoundsSpec)

/-- ITS FALSE NEIGHBOUR: 'it returns false'. Refute it at one input. -/
def elemBoundsWrong : ChangeSpec := { name := "elemBounds", fn := fun _ => fun
  | [d1, d2, d3] => { results := [.lit (.bool false)], args := [d1, d2, d3] }
  | _ => none }
def ElemBoundsWrongFalsely : Prop := elemBoundsRow.holds Try.pinned (OpenSpec.ofChange elemBoundsWrong)

/-- 'renlaw4.ElemParts': WHATEVER THE INPUT: true; the input reads as it did. -/
def elemPartsSpec : ChangeSpec := { name := "elemParts", fn := fun _ => fun
  | [d] => { results := [.lit (.bool true)], args := [d] }
  | _ => none }
def elemPartsRow : OpenClaim := { program := "ytjojkogmbgppcaa", sum := "95ab8dce87bc71bffb33bb8db398369b42760e16e3747ab73e3190cf948e41bd", func := "rendezvous/renlaw4.ElemParts", spec := "elemParts", unfollowed := true, recurses := true, apart := false }
def ElemPartsSaid : Prop := elemPartsRow.holds Try.pinned (OpenSpec.ofChange elemPartsSpec)

/-- ITS FALSE NEIGHBOUR: 'it returns false'. Refute it at one input. -/
def elemPartsWrong : ChangeSpec := { name := "elemParts", fn := fun _ => fun
  | [d] => { results := [.lit (.bool false)], args := [d] }
  | _ => none }
def ElemPartsWrongFalsely : Prop := elemPartsRow.holds Try.pinned (OpenSpec.ofChange elemPartsWrong)

/-- 'renlaw4.ElemPairs': WHATEVER THE INPUT: true; the input reads as it did. -/
def elemPairsSpec : ChangeSpec := { name := "elemPairs", fn := fun _ => fun
  | [d1, d2, d3, d4] => { results := [.lit (.bool true)], args := [d1, d2, d3, d4] }
  | _ => none }
def elemPairsRow : OpenClaim := { program := "ytjojkogmbgppcaa", sum := "95ab8dce87bc71bffb33bb8db398369b42760e16e3747ab73e3190cf948e41bd", func := "rendezvous/renlaw4.ElemPairs", spec := "elemPairs", unfollowed := true, recurses := true, apart := false }
def ElemPairsSaid : Prop := elemPairsRow.holds Try.pinned (OpenSpec.ofChange elemPairsSpec)

/-- ITS FALSE NEIGHBOUR: 'it returns false'. Refute it at one input. -/
def elemPairsWrong : ChangeSpec := { name := "elemPairs", fn := fun _ => fun
  | [d1, d2, d3, d4] => { results := [.lit (.bool false)], args := [d1, d2, d3, d4] }
  | _ => none }
def ElemPairsWrongFalsely : Prop := elemPairsRow.holds Try.pinned (OpenSpec.ofChange elemPairsWrong)

/-- 'renlaw4.ElemMasks': WHATEVER THE INPUT: true; the input reads as it did. -/
def elemMasksSpec : ChangeSpec := { name := "elemMasks", fn := fun _ => fun
  | [d1, d2, d3] => { results := [.lit (.bool true)], args := [d1, d2, d3] }
  | _ => none }
def elemMasksRow : OpenClaim := { program := "ytjojkogmbgppcaa", sum := "95ab8dce87bc71bffb33bb8db398369b42760e16e3747ab73e3190cf948e41bd", func := "rendezvous/renlaw4.ElemMasks", spec := "elemMasks", unfollowed := true, recurses := true, apart := false }
def ElemMasksSaid : Prop := elemMasksRow.holds Try.pinned (OpenSpec.ofChange elemMasksSpec)

/-- ITS FALSE NEIGHBOUR: 'it returns false'. Refute it at one input. -/
def elemMasksWrong : ChangeSpec := { name := "elemMasks", fn := fun _ => fun
  | [d1, d2, d3] => { results := [.lit (.bool false)], args := [d1, d2, d3] }
  | _ => none }
def ElemMasksWrongFalsely : Prop := elemMasksRow.holds Try.pinned (OpenSpec.ofChange elemMasksWrong)

/-- 'renlaw4.ElemKinds': WHATEVER THE INPUT: true; the input reads as it did. -/
def elemKindsSpec : ChangeSpec := { name := "elemKinds", fn := fun _ => fun
  | [d1, d2] => { results := [.lit (.bool true)], args := [d1, d2] }
  | _ => none }
def elemKindsRow : OpenClaim := { program := "ytjojkogmbgppcaa", sum := "95ab8dce87bc71bffb33bb8db398369b42760e16e3747ab73e3190cf948e41bd", func := "rendezvous/renlaw4.ElemKinds", spec := "elemKinds", unfollowed := true, recurses := true, apart := false }
def ElemKindsSaid : Prop := elemKindsRow.holds Try.pinned (OpenSpec.ofChange elemKindsSpec)

/-- ITS FALSE NEIGHBOUR: 'it returns false'. Refute it at one input. -/
def elemKindsWrong : ChangeSpec := { name := "elemKinds", fn := fun _ => fun
  | [d1, d2] => { results := [.lit (.bool false)], args := [d1, d2] }
  | _ => none }
def ElemKindsWrongFalsely : Prop := elemKindsRow.holds Try.pinned (OpenSpec.ofChange elemKindsWrong)

/- THE SECOND FORM. 'bulk': how many values and letters a reading holds, each counted each time it is reached (what is shared counts as often as it is met; a slice's spare places count too). A statement '..UptoSaid' is the law's where the arguments, and the package variables that the reading takes, are together of bulk at most 1048576: NARROWER than '..Said'. Prove '..Said' where nothing that the law and all that it calls make is longer than what came in: it says more and counts as full. Else prove '..UptoSaid'. A law counts once. -/
mutual
def uptoBulk {H : Type} : DataW H → Nat
  | .lit (.string bytes) => bytes.length + 1
  | .lit _ => 1
  | .nil => 1
  | .ptr d => uptoBulk d + 1
  | .slice elems spare => uptoBulkAll elems + uptoBulkAll spare + 1
  | .agg parts => uptoBulkAll parts + 1
  | .iface _ d => uptoBulk d + 1
  | .map entries => uptoBulkEntries entries + 1
  | .held _ => 1
def uptoBulkAll {H : Type} : List (DataW H) → Nat
  | [] => 0
  | d :: r => uptoBulk d + uptoBulkAll r
def uptoBulkEntries {H : Type} : List (Lit × DataW H) → Nat
  | [] => 0
  | x :: r => uptoBulkEntry x + uptoBulkEntries r
def uptoBulkEntry {H : Type} : Lit × DataW H → Nat
  | (.string bytes, d) => bytes.length + uptoBulk d + 1
  | (_, d) => uptoBulk d + 1
 end
def uptoSmall : (H : Type) → List (DataW H) → Bool := fun _ ds => decide (uptoBulkAll ds ≤ 1048576)
def OpenSpec.upto (s : _root_.Go.ChangeSpec) : _root_.Go.OpenSpec := { _root_.Go.OpenSpec.ofChange s with cond := some uptoSmall }

/-- 'renlaw4.ElemWords', WHERE WHAT IT READS IS OF BULK AT MOST 1048576: true; the input reads as it did. -/
def elemWordsUptoRow : OpenClaim := { program := "ytjojkogmbgppcaa", sum := "95ab8dce87bc71bffb33bb8db398369b42760e16e3747ab73e3190cf948e41bd", func := "rendezvous/renlaw4.ElemWords", spec := "elemWords", unfollowed := true, recurses := true, apart := false, narrowed := true }
def ElemWordsUptoSaid : Prop := elemWordsUptoRow.holds Try.pinned (OpenSpec.upto elemWordsSpec)

/-- 'renlaw4.ElemValues', WHERE WHAT IT READS IS OF BULK AT MOST 1048576: true; the input reads as it did. -/
def elemValuesUptoRow : OpenClaim := { program := "ytjojkogmbgppcaa", sum := "95ab8dce87bc71bffb33bb8db398369b42760e16e3747ab73e3190cf948e41bd", func := "rendezvous/renlaw4.ElemValues", spec := "elemValues", unfollowed := true, recurses := true, apart := false, narrowed := true }
def ElemValuesUptoSaid : Prop := elemValuesUptoRow.holds Try.pinned (OpenSpec.upto elemValuesSpec)

/-- 'renlaw4.ElemChanges', WHERE WHAT IT READS IS OF BULK AT MOST 1048576: true; the input reads as it did. -/
def elemChangesUptoRow : OpenClaim := { program := "ytjojkogmbgppcaa", sum := "95ab8dce87bc71bffb33bb8db398369b42760e16e3747ab73e3190cf948e41bd", func := "rendezvous/renlaw4.ElemChanges", spec := "elemChanges", unfollowed := true, recurses := true, apart := false, narrowed := true }
def ElemChangesUptoSaid : Prop := elemChangesUptoRow.holds Try.pinned (OpenSpec.upto elemChangesSpec)

/-- 'renlaw4.ElemBack', WHERE WHAT IT READS IS OF BULK AT MOST 1048576: true; the input reads as it did. -/
def elemBackUptoRow : OpenClaim := { program := "ytjojkogmbgppcaa", sum := "95ab8dce87bc71bffb33bb8db398369b42760e16e3747ab73e3190cf948e41bd", func := "rendezvous/renlaw4.ElemBack", spec := "elemBack", unfollowed := true, recurses := true, apart := false, narrowed := true }
def ElemBackUptoSaid : Prop := elemBackUptoRow.holds Try.pinned (OpenSpec.upto elemBackSpec)

/-- 'renlaw4.ElemBounds', WHERE WHAT IT READS IS OF BULK AT MOST 1048576: true; the input reads as it did. -/
def elemBoundsUptoRow : OpenClaim := { program := "ytjojkogmbgppcaa", sum := "95ab8dce87bc71bffb33bb8db398369b42760e16e3747ab73e3190cf948e41bd", func := "rendezvous/renlaw4.ElemBounds", spec := "elemBounds", unfollowed := true, recurses := true, apart := false, narrowed := true }
def ElemBoundsUptoSaid : Prop := elemBoundsUptoRow.holds Try.pinned (OpenSpec.upto elemBoundsSpec)

/-- 'renlaw4.ElemParts', WHERE WHAT IT READS IS OF BULK AT MOST 1048576: true; the input reads as it did. -/
def elemPartsUptoRow : OpenClaim := { program := "ytjojkogmbgppcaa", sum := "95ab8dce87bc71bffb33bb8db398369b42760e16e3747ab73e3190cf948e41bd", func := "rendezvous/renlaw4.ElemParts", spec := "elemParts", unfollowed := true, recurses := true, apart := false, narrowed := true }
def ElemPartsUptoSaid : Prop := elemPartsUptoRow.holds Try.pinned (OpenSpec.upto elemPartsSpec)

/-- 'renlaw4.ElemPairs', WHERE WHAT IT READS IS OF BULK AT MOST 1048576: true; the input reads as it did. -/
def elemPairsUptoRow : OpenClaim := { program := "ytjojkogmbgppcaa", sum := "95ab8dce87bc71bffb33bb8db398369b42760e16e3747ab73e3190cf948e41bd", func := "rendezvous/renlaw4.ElemPairs", spec := "elemPairs", unfollowed := true, recurses := true, apart := false, narrowed := true }
def ElemPairsUptoSaid : Prop := elemPairsUptoRow.holds Try.pinned (OpenSpec.upto elemPairsSpec)

/-- 'renlaw4.ElemMasks', WHERE WHAT IT READS IS OF BULK AT MOST 1048576: true; the input reads as it did. -/
def elemMasksUptoRow : OpenClaim := { program := "ytjojkogmbgppcaa", sum := "95ab8dce87bc71bffb33bb8db398369b42760e16e3747ab73e3190cf948e41bd", func := "rendezvous/renlaw4.ElemMasks", spec := "elemMasks", unfollowed := true, recurses := true, apart := false, narrowed := true }
def ElemMasksUptoSaid : Prop := elemMasksUptoRow.holds Try.pinned (OpenSpec.upto elemMasksSpec)

/-- 'renlaw4.ElemKinds', WHERE WHAT IT READS IS OF BULK AT MOST 1048576: true; the input reads as it did. -/
def elemKindsUptoRow : OpenClaim := { program := "ytjojkogmbgppcaa", sum := "95ab8dce87bc71bffb33bb8db398369b42760e16e3747ab73e3190cf948e41bd", func := "rendezvous/renlaw4.ElemKinds", spec := "elemKinds", unfollowed := true, recurses := true, apart := false, narrowed := true }
def ElemKindsUptoSaid : Prop := elemKindsUptoRow.holds Try.pinned (OpenSpec.upto elemKindsSpec)

end Rows
end Go.Proofs.Ytjojkogmbgppcaa
