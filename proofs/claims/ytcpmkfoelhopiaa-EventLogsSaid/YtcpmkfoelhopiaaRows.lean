/-
  No cell of these rows narrows 'for every input' (looked for: loops, veiled, ifaces, maps, wideKeys, modest, calm, conditions, laid).
  DERIVED. THE GIVEN ROWS OF THIS SEAT. 6 by the template 'for every input the law returns true; each argument reads behind the call as it read before'; 0 by the template 'total and deterministic' (their statements: YtcpmkfoelhopiaaTotals.lean).
  GIVEN WITH THE SEED: the statements are not yours to turn. If you find one false, say at which input.
  Laid BY PROGRAM, IN A SANDBOX (cutbox-rows.mjs): the forced cells as the released guide's own fill.sh prints them over the translation 8e4f58946512bc4f… (all of the seat's roots in one cut). By AI agents, Wed Nov 11 2026. No macro, syntax, notation, axiom, sorry.
-/
import Derived.Test.YtcpmkfoelhopiaaChecked
import GoSem.Claim
import GoSem.ClaimJoined
import GoSem.ClaimMapViews
import Derived.JoinedTies
import Derived.KernelRfl
namespace Go.Proofs.Ytcpmkfoelhopiaa
/- THE CELL 'sum', in the pinned program and in every row, IS THE sha256 OF THE DUMP (.gsa) THAT YtcpmkfoelhopiaaProg.lean LOADS. Nothing in Lean hashes anything: it is a label: what it is worth is what the hold of that sum in a sandbox is worth. -/
noncomputable def Try.pinned : Pinned := { name := "ytcpmkfoelhopiaa", sum := "8e4f58946512bc4f8ac8b2fec5c20e4c0f79e1170e61a5126f089f1c78361aef", checked := Try.checked }
namespace Rows
def none {H : Type} : Left H := { results := [], args := [] }

/-- 'renlaw14.EventAsks': WHATEVER THE INPUT: true; the input reads as it did. -/
def eventAsksSpec : ChangeSpec := { name := "eventAsks", fn := fun _ => fun
  | [d1, d2] => { results := [.lit (.bool true)], args := [d1, d2] }
  | _ => none }
def eventAsksRow : OpenClaim := { program := "ytcpmkfoelhopiaa", sum := "8e4f58946512bc4f8ac8b2fec5c20e4c0f79e1170e61a5126f089f1c78361aef", func := "rendezvous/renlaw14.EventAsks", spec := "eventAsks", unfollowed := true, recurses := true, apart := false }
def EventAsksSaid : Prop := eventAsksRow.holds Try.pinned (OpenSpec.ofChange eventAsksSpec)

/-- ITS FALSE NEIGHBOUR: 'it returns false'. Refute it at one input. -/
def eventAsksWrong : ChangeSpec := { name := "eventAsks", fn := fun _ => fun
  | [d1, d2] => { results := [.lit (.bool false)], args := [d1, d2] }
  | _ => none }
def EventAsksWrongFalsely : Prop := eventAsksRow.holds Try.pinned (OpenSpec.ofChange eventAsksWrong)

/-- 'renlaw14.EventLogs': WHATEVER THE INPUT: true; the input reads as it did. -/
def eventLogsSpec : ChangeSpec := { name := "eventLogs", fn := fun _ => fun
  | [d1, d2, d3] => { results := [.lit (.bool true)], args := [d1, d2, d3] }
  | _ => none }
def eventLogsRow : OpenClaim := { program := "ytcpmkfoelhopiaa", sum := "8e4f58946512bc4f8ac8b2fec5c20e4c0f79e1170e61a5126f089f1c78361aef", func := "rendezvous/renlaw14.EventLogs", spec := "eventLogs", unfollowed := true, recurses := true, apart := false }
def EventLogsSaid : Prop := eventLogsRow.holds Try.pinned (OpenSpec.ofChange eventLogsSpec)

/-- ITS FALSE NEIGHBOUR: 'it returns false'. Refute it at one input. -/
def eventLogsWrong : ChangeSpec := { name := "eventLogs", fn := fun _ => fun
  | [d1, d2, d3] => { results := [.lit (.bool false)], args := [d1, d2, d3] }
  | _ => none }
def EventLogsWrongFalsely : Prop := eventLogsRow.holds Try.pinned (OpenSpec.ofChange eventLogsWrong)

/-- 'renlaw14.EventHeads': WHATEVER THE INPUT: true; the input reads as it did. -/
def eventHeadsSpec : ChangeSpec := { name := "eventHeads", fn := fun _ => fun
  | [d1, d2, d3] => { results := [.lit (.bool true)], args := [d1, d2, d3] }
  | _ => none }
def eventHeadsRow : OpenClaim := { program := "ytcpmkfoelhopiaa", sum := "8e4f58946512bc4f8ac8b2fec5c20e4c0f79e1170e61a5126f089f1c78361aef", func := "rendezvous/renlaw14.EventHeads", spec := "eventHeads", unfollowed := true, recurses := true, apart := false }
def EventHeadsSaid : Prop := eventHeadsRow.holds Try.pinned (OpenSpec.ofChange eventHeadsSpec)

/-- ITS FALSE NEIGHBOUR: 'it returns false'. Refute it at one input. -/
def eventHeadsWrong : ChangeSpec := { name := "eventHeads", fn := fun _ => fun
  | [d1, d2, d3] => { results := [.lit (.bool false)], args := [d1, d2, d3] }
  | _ => none }
def EventHeadsWrongFalsely : Prop := eventHeadsRow.holds Try.pinned (OpenSpec.ofChange eventHeadsWrong)

/-- 'renlaw14.EventTurns': WHATEVER THE INPUT: true; the input reads as it did. -/
def eventTurnsSpec : ChangeSpec := { name := "eventTurns", fn := fun _ => fun
  | [d1, d2] => { results := [.lit (.bool true)], args := [d1, d2] }
  | _ => none }
def eventTurnsRow : OpenClaim := { program := "ytcpmkfoelhopiaa", sum := "8e4f58946512bc4f8ac8b2fec5c20e4c0f79e1170e61a5126f089f1c78361aef", func := "rendezvous/renlaw14.EventTurns", spec := "eventTurns", unfollowed := true, recurses := true, apart := false }
def EventTurnsSaid : Prop := eventTurnsRow.holds Try.pinned (OpenSpec.ofChange eventTurnsSpec)

/-- ITS FALSE NEIGHBOUR: 'it returns false'. Refute it at one input. -/
def eventTurnsWrong : ChangeSpec := { name := "eventTurns", fn := fun _ => fun
  | [d1, d2] => { results := [.lit (.bool false)], args := [d1, d2] }
  | _ => none }
def EventTurnsWrongFalsely : Prop := eventTurnsRow.holds Try.pinned (OpenSpec.ofChange eventTurnsWrong)

/-- 'renlaw14.EventTells': WHATEVER THE INPUT: true; the input reads as it did. -/
def eventTellsSpec : ChangeSpec := { name := "eventTells", fn := fun _ => fun
  | [d1, d2] => { results := [.lit (.bool true)], args := [d1, d2] }
  | _ => none }
def eventTellsRow : OpenClaim := { program := "ytcpmkfoelhopiaa", sum := "8e4f58946512bc4f8ac8b2fec5c20e4c0f79e1170e61a5126f089f1c78361aef", func := "rendezvous/renlaw14.EventTells", spec := "eventTells", unfollowed := true, recurses := true, apart := false }
def EventTellsSaid : Prop := eventTellsRow.holds Try.pinned (OpenSpec.ofChange eventTellsSpec)

/-- ITS FALSE NEIGHBOUR: 'it returns false'. Refute it at one input. -/
def eventTellsWrong : ChangeSpec := { name := "eventTells", fn := fun _ => fun
  | [d1, d2] => { results := [.lit (.bool false)], args := [d1, d2] }
  | _ => none }
def EventTellsWrongFalsely : Prop := eventTellsRow.holds Try.pinned (OpenSpec.ofChange eventTellsWrong)

/-- 'renlaw14.EventMore': WHATEVER THE INPUT: true; the input reads as it did. -/
def eventMoreSpec : ChangeSpec := { name := "eventMore", fn := fun _ => fun
  | [d1, d2, d3] => { results := [.lit (.bool true)], args := [d1, d2, d3] }
  | _ => none }
def eventMoreRow : OpenClaim := { program := "ytcpmkfoelhopiaa", sum := "8e4f58946512bc4f8ac8b2fec5c20e4c0f79e1170e61a5126f089f1c78361aef", func := "rendezvous/renlaw14.EventMore", spec := "eventMore", unfollowed := true, recurses := true, apart := false }
def EventMoreSaid : Prop := eventMoreRow.holds Try.pinned (OpenSpec.ofChange eventMoreSpec)

/-- ITS FALSE NEIGHBOUR: 'it returns false'. Refute it at one input. -/
def eventMoreWrong : ChangeSpec := { name := "eventMore", fn := fun _ => fun
  | [d1, d2, d3] => { results := [.lit (.bool false)], args := [d1, d2, d3] }
  | _ => none }
def EventMoreWrongFalsely : Prop := eventMoreRow.holds Try.pinned (OpenSpec.ofChange eventMoreWrong)

/- THE SECOND FORM. 'bulk': how many values and letters a reading holds, each counted each time it is reached (what is shared counts as often as it is met; a slice's spare places count too). A statement '..UptoSaid' is the law's where the arguments, and the package variables that the reading takes, are together of bulk at most 1048576: NARROWER than '..Said'. Prove '..Said' where nothing that the law and all that it calls make is longer than what came in: it says more and counts as full. Else prove '..UptoSaid'. A law counts once. -/
mutual
def uptoBulk {H : Type} : DataW H → Nat
  | .lit (.string bytes) => bytes.length + 1
  | .lit _ => 1
  | .nil => 1
  | .ptr d => uptoBulk d + 1
  | .slice elems spare => uptoBulkAll elems + uptoBulkAll spare + 1
  | .agg parts => uptoBulkAll parts + 1
  | .iface _ d => uptoBulk d + 1
  | .map entries => uptoBulkEntries entries + 1
  | .held _ => 1
def uptoBulkAll {H : Type} : List (DataW H) → Nat
  | [] => 0
  | d :: r => uptoBulk d + uptoBulkAll r
def uptoBulkEntries {H : Type} : List (Lit × DataW H) → Nat
  | [] => 0
  | x :: r => uptoBulkEntry x + uptoBulkEntries r
def uptoBulkEntry {H : Type} : Lit × DataW H → Nat
  | (.string bytes, d) => bytes.length + uptoBulk d + 1
  | (_, d) => uptoBulk d + 1
 end
def uptoSmall : (H : Type) → List (DataW H) → Bool := fun _ ds => decide (uptoBulkAll ds ≤ 1048576)
def OpenSpec.upto (s : _root_.Go.ChangeSpec) : _root_.Go.OpenSpec := { _root_.Go.OpenSpec.ofChange s with cond := some uptoSmall }

/-- 'renlaw14.EventAsks', WHERE WHAT IT READS IS OF BULK AT MOST 1048576: true; the input reads as it did. -/
def eventAsksUptoRow : OpenClaim := { program := "ytcpmkfoelhopiaa", sum := "8e4f58946512bc4f8ac8b2fec5c20e4c0f79e1170e61a5126f089f1c78361aef", func := "rendezvous/renlaw14.EventAsks", spec := "eventAsks", unfollowed := true, recurses := true, apart := false, narrowed := true }
def EventAsksUptoSaid : Prop := eventAsksUptoRow.holds Try.pinned (OpenSpec.upto eventAsksSpec)

/-- 'renlaw14.EventLogs', WHERE WHAT IT READS IS OF BULK AT MOST 1048576: true; the input reads as it did. -/
def eventLogsUptoRow : OpenClaim := { program := "ytcpmkfoelhopiaa", sum := "8e4f58946512bc4f8ac8b2fec5c20e4c0f79e1170e61a5126f089f1c78361aef", func := "rendezvous/renlaw14.EventLogs", spec := "eventLogs", unfollowed := true, recurses := true, apart := false, narrowed := true }
def EventLogsUptoSaid : Prop := eventLogsUptoRow.holds Try.pinned (OpenSpec.upto eventLogsSpec)

/-- 'renlaw14.EventHeads', WHERE WHAT IT READS IS OF BULK AT MOST 1048576: true; the input reads as it did. -/
def eventHeadsUptoRow : OpenClaim := { program := "ytcpmkfoelhopiaa", sum := "8e4f58946512bc4f8ac8b2fec5c20e4c0f79e1170e61a5126f089f1c78361aef", func := "rendezvous/renlaw14.EventHeads", spec := "eventHeads", unfollowed := true, recurses := true, apart := false, narrowed := true }
def EventHeadsUptoSaid : Prop := eventHeadsUptoRow.holds Try.pinned (OpenSpec.upto eventHeadsSpec)

/-- 'renlaw14.EventTurns', WHERE WHAT IT READS IS OF BULK AT MOST 1048576: true; the input reads as it did. -/
def eventTurnsUptoRow : OpenClaim := { program := "ytcpmkfoelhopiaa", sum := "8e4f58946512bc4f8ac8b2fec5c20e4c0f79e1170e61a5126f089f1c78361aef", func := "rendezvous/renlaw14.EventTurns", spec := "eventTurns", unfollowed := true, recurses := true, apart := false, narrowed := true }
def EventTurnsUptoSaid : Prop := eventTurnsUptoRow.holds Try.pinned (OpenSpec.upto eventTurnsSpec)

/-- 'renlaw14.EventTells', WHERE WHAT IT READS IS OF BULK AT MOST 1048576: true; the input reads as it did. -/
def eventTellsUptoRow : OpenClaim := { program := "ytcpmkfoelhopiaa", sum := "8e4f58946512bc4f8ac8b2fec5c20e4c0f79e1170e61a5126f089f1c78361aef", func := "rendezvous/renlaw14.EventTells", spec := "eventTells", unfollowed := true, recurses := true, apart := false, narrowed := true }
def EventTellsUptoSaid : Prop := eventTellsUptoRow.holds Try.pinned (OpenSpec.upto eventTellsSpec)

/-- 'renlaw14.EventMore', WHERE WHAT IT READS IS OF BULK AT MOST 1048576: true; the input reads as it did. -/
def eventMoreUptoRow : OpenClaim := { program := "ytcpmkfoelhopiaa", sum := "8e4f58946512bc4f8ac8b2fec5c20e4c0f79e1170e61a5126f089f1c78361aef", func := "rendezvous/renlaw14.EventMore", spec := "eventMore", unfollowed := true, recurses := true, apart := false, narrowed := true }
def EventMoreUptoSaid : Prop := eventMoreUptoRow.holds Try.pinned (OpenSpec.upto eventMoreSpec)

end Rows
end Go.Proofs.Ytcpmkfoelhopiaa
