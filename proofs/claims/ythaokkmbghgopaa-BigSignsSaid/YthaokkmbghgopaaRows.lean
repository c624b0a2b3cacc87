/-
  No cell of these rows narrows 'for every input' (looked for: loops, veiled, ifaces, maps, wideKeys, modest, calm, conditions, laid).
  DERIVED. THE GIVEN ROWS OF THIS SEAT. 11 by the template 'for every input the law returns true; each argument reads behind the call as it read before'; 0 by the template 'total and deterministic' (their statements: YthaokkmbghgopaaTotals.lean).
  GIVEN WITH THE SEED: the statements are not yours to turn. If you find one false, say at which input.
  Laid BY PROGRAM, IN A SANDBOX (cutbox-rows.mjs): the forced cells as the released guide's own fill.sh prints them over the translation 45011c7ad067a400… (all of the seat's roots in one cut). By AI agents, Wed Nov 11 2026. No macro, syntax, notation, axiom, sorry.
-/
import Derived.Test.YthaokkmbghgopaaChecked
import GoSem.Claim
import GoSem.ClaimJoined
import GoSem.ClaimMapViews
import Derived.JoinedTies
import Derived.KernelRfl
namespace Go.Proofs.Ythaokkmbghgopaa
/- THE CELL 'sum', in the pinned program and in every row, IS THE sha256 OF THE DUMP (.gsa) THAT YthaokkmbghgopaaProg.lean LOADS. Nothing in Lean hashes anything: it is a label: what it is worth is what the hold of that sum in a sandbox is worth. -/
noncomputable def Try.pinned : Pinned := { name := "ythaokkmbghgopaa", sum := "45011c7ad067a40083080592c80598fc35bc98f18451d4dd6bede7d003a5d129", checked := Try.checked }
namespace Rows
def none {H : Type} : Left H := { results := [], args := [] }

/-- 'renlaw2.BigReckons': WHATEVER THE INPUT: true; the input reads as it did. -/
def bigReckonsSpec : ChangeSpec := { name := "bigReckons", fn := fun _ => fun
  | [d1, d2] => { results := [.lit (.bool true)], args := [d1, d2] }
  | _ => none }
def bigReckonsRow : OpenClaim := { program := "ythaokkmbghgopaa", sum := "45011c7ad067a40083080592c80598fc35bc98f18451d4dd6bede7d003a5d129", func := "rendezvous/renlaw2.BigReckons", spec := "bigReckons", apart := false }
def BigReckonsSaid : Prop := bigReckonsRow.holds Try.pinned (OpenSpec.ofChange bigReckonsSpec)

/-- ITS FALSE NEIGHBOUR: 'it returns false'. Refute it at one input. -/
def bigReckonsWrong : ChangeSpec := { name := "bigReckons", fn := fun _ => fun
  | [d1, d2] => { results := [.lit (.bool false)], args := [d1, d2] }
  | _ => none }
def BigReckonsWrongFalsely : Prop := bigReckonsRow.holds Try.pinned (OpenSpec.ofChange bigReckonsWrong)

/-- 'renlaw2.BigCuts': WHATEVER THE INPUT: true; the input reads as it did. -/
def bigCutsSpec : ChangeSpec := { name := "bigCuts", fn := fun _ => fun
  | [d1, d2, d3, d4, d5] => { results := [.lit (.bool true)], args := [d1, d2, d3, d4, d5] }
  | _ => none }
def bigCutsRow : OpenClaim := { program := "ythaokkmbghgopaa", sum := "45011c7ad067a40083080592c80598fc35bc98f18451d4dd6bede7d003a5d129", func := "rendezvous/renlaw2.BigCuts", spec := "bigCuts", apart := false }
def BigCutsSaid : Prop := bigCutsRow.holds Try.pinned (OpenSpec.ofChange bigCutsSpec)

/-- ITS FALSE NEIGHBOUR: 'it returns false'. Refute it at one input. -/
def bigCutsWrong : ChangeSpec := { name := "bigCuts", fn := fun _ => fun
  | [d1, d2, d3, d4, d5] => { results := [.lit (.bool false)], args := [d1, d2, d3, d4, d5] }
  | _ => none }
def BigCutsWrongFalsely : Prop := bigCutsRow.holds Try.pinned (OpenSpec.ofChange bigCutsWrong)

/-- 'renlaw2.BigTexts': WHATEVER THE INPUT: true; the input reads as it did. -/
def bigTextsSpec : ChangeSpec := { name := "bigTexts", fn := fun _ => fun
  | [d1, d2] => { results := [.lit (.bool true)], args := [d1, d2] }
  | _ => none }
def bigTextsRow : OpenClaim := { program := "ythaokkmbghgopaa", sum := "45011c7ad067a40083080592c80598fc35bc98f18451d4dd6bede7d003a5d129", func := "rendezvous/renlaw2.BigTexts", spec := "bigTexts", apart := false }
def BigTextsSaid : Prop := bigTextsRow.holds Try.pinned (OpenSpec.ofChange bigTextsSpec)

/-- ITS FALSE NEIGHBOUR: 'it returns false'. Refute it at one input. -/
def bigTextsWrong : ChangeSpec := { name := "bigTexts", fn := fun _ => fun
  | [d1, d2] => { results := [.lit (.bool false)], args := [d1, d2] }
  | _ => none }
def BigTextsWrongFalsely : Prop := bigTextsRow.holds Try.pinned (OpenSpec.ofChange bigTextsWrong)

/-- 'renlaw2.BigTurns': WHATEVER THE INPUT: true; the input reads as it did. -/
def bigTurnsSpec : ChangeSpec := { name := "bigTurns", fn := fun _ => fun
  | [d1, d2] => { results := [.lit (.bool true)], args := [d1, d2] }
  | _ => none }
def bigTurnsRow : OpenClaim := { program := "ythaokkmbghgopaa", sum := "45011c7ad067a40083080592c80598fc35bc98f18451d4dd6bede7d003a5d129", func := "rendezvous/renlaw2.BigTurns", spec := "bigTurns", apart := false }
def BigTurnsSaid : Prop := bigTurnsRow.holds Try.pinned (OpenSpec.ofChange bigTurnsSpec)

/-- ITS FALSE NEIGHBOUR: 'it returns false'. Refute it at one input. -/
def bigTurnsWrong : ChangeSpec := { name := "bigTurns", fn := fun _ => fun
  | [d1, d2] => { results := [.lit (.bool false)], args := [d1, d2] }
  | _ => none }
def BigTurnsWrongFalsely : Prop := bigTurnsRow.holds Try.pinned (OpenSpec.ofChange bigTurnsWrong)

/-- 'renlaw2.BigBack': WHATEVER THE INPUT: true; the input reads as it did. -/
def bigBackSpec : ChangeSpec := { name := "bigBack", fn := fun _ => fun
  | [d1, d2, d3, d4] => { results := [.lit (.bool true)], args := [d1, d2, d3, d4] }
  | _ => none }
def bigBackRow : OpenClaim := { program := "ythaokkmbghgopaa", sum := "45011c7ad067a40083080592c80598fc35bc98f18451d4dd6bede7d003a5d129", func := "rendezvous/renlaw2.BigBack", spec := "bigBack", apart := false }
def BigBackSaid : Prop := bigBackRow.holds Try.pinned (OpenSpec.ofChange bigBackSpec)

/-- ITS FALSE NEIGHBOUR: 'it returns false'. Refute it at one input. -/
def bigBackWrong : ChangeSpec := { name := "bigBack", fn := fun _ => fun
  | [d1, d2, d3, d4] => { results := [.lit (.bool false)], args := [d1, d2, d3, d4] }
  | _ => none }
def BigBackWrongFalsely : Prop := bigBackRow.holds Try.pinned (OpenSpec.ofChange bigBackWrong)

/-- 'renlaw2.BigOrders': WHATEVER THE INPUT: true; the input reads as it did. -/
def bigOrdersSpec : ChangeSpec := { name := "bigOrders", fn := fun _ => fun
  | [d1, d2, d3] => { results := [.lit (.bool true)], args := [d1, d2, d3] }
  | _ => none }
def bigOrdersRow : OpenClaim := { program := "ythaokkmbghgopaa", sum := "45011c7ad067a40083080592c80598fc35bc98f18451d4dd6bede7d003a5d129", func := "rendezvous/renlaw2.BigOrders", spec := "bigOrders", apart := false }
def BigOrdersSaid : Prop := bigOrdersRow.holds Try.pinned (OpenSpec.ofChange bigOrdersSpec)

/-- ITS FALSE NEIGHBOUR: 'it returns false'. Refute it at one input. -/
def bigOrdersWrong : ChangeSpec := { name := "bigOrders", fn := fun _ => fun
  | [d1, d2, d3] => { results := [.lit (.bool false)], args := [d1, d2, d3] }
  | _ => none }
def BigOrdersWrongFalsely : Prop := bigOrdersRow.holds Try.pinned (OpenSpec.ofChange bigOrdersWrong)

/-- 'renlaw2.BigWords': WHATEVER THE INPUT: true; the input reads as it did. -/
def bigWordsSpec : ChangeSpec := { name := "bigWords", fn := fun _ => fun
  | [d1, d2] => { results := [.lit (.bool true)], args := [d1, d2] }
  | _ => none }
def bigWordsRow : OpenClaim := { program := "ythaokkmbghgopaa", sum := "45011c7ad067a40083080592c80598fc35bc98f18451d4dd6bede7d003a5d129", func := "rendezvous/renlaw2.BigWords", spec := "bigWords", apart := false }
def BigWordsSaid : Prop := bigWordsRow.holds Try.pinned (OpenSpec.ofChange bigWordsSpec)

/-- ITS FALSE NEIGHBOUR: 'it returns false'. Refute it at one input. -/
def bigWordsWrong : ChangeSpec := { name := "bigWords", fn := fun _ => fun
  | [d1, d2] => { results := [.lit (.bool false)], args := [d1, d2] }
  | _ => none }
def BigWordsWrongFalsely : Prop := bigWordsRow.holds Try.pinned (OpenSpec.ofChange bigWordsWrong)

/-- 'renlaw2.BigSigns': WHATEVER THE INPUT: true; the input reads as it did. -/
def bigSignsSpec : ChangeSpec := { name := "bigSigns", fn := fun _ => fun
  | [d1, d2] => { results := [.lit (.bool true)], args := [d1, d2] }
  | _ => none }
def bigSignsRow : OpenClaim := { program := "ythaokkmbghgopaa", sum := "45011c7ad067a40083080592c80598fc35bc98f18451d4dd6bede7d003a5d129", func := "rendezvous/renlaw2.BigSigns", spec := "bigSigns", apart := false }
def BigSignsSaid : Prop := bigSignsRow.holds Try.pinned (OpenSpec.ofChange bigSignsSpec)

/-- ITS FALSE NEIGHBOUR: 'it returns false'. Refute it at one input. -/
def bigSignsWrong : ChangeSpec := { name := "bigSigns", fn := fun _ => fun
  | [d1, d2] => { results := [.lit (.bool false)], args := [d1, d2] }
  | _ => none }
def BigSignsWrongFalsely : Prop := bigSignsRow.holds Try.pinned (OpenSpec.ofChange bigSignsWrong)

/-- 'renlaw2.BigSpreads': WHATEVER THE INPUT: true; the input reads as it did. -/
def bigSpreadsSpec : ChangeSpec := { name := "bigSpreads", fn := fun _ => fun
  | [d1, d2, d3] => { results := [.lit (.bool true)], args := [d1, d2, d3] }
  | _ => none }
def bigSpreadsRow : OpenClaim := { program := "ythaokkmbghgopaa", sum := "45011c7ad067a40083080592c80598fc35bc98f18451d4dd6bede7d003a5d129", func := "rendezvous/renlaw2.BigSpreads", spec := "bigSpreads", apart := false }
def BigSpreadsSaid : Prop := bigSpreadsRow.holds Try.pinned (OpenSpec.ofChange bigSpreadsSpec)

/-- ITS FALSE NEIGHBOUR: 'it returns false'. Refute it at one input. -/
def bigSpreadsWrong : ChangeSpec := { name := "bigSpreads", fn := fun _ => fun
  | [d1, d2, d3] => { results := [.lit (.bool false)], args := [d1, d2, d3] }
  | _ => none }
def BigSpreadsWrongFalsely : Prop := bigSpreadsRow.holds Try.pinned (OpenSpec.ofChange bigSpreadsWrong)

/-- 'renlaw2.BigCuts2': WHATEVER THE INPUT: true; the input reads as it did. -/
def bigCuts2Spec : ChangeSpec := { name := "bigCuts2", fn := fun _ => fun
  | [d1, d2, d3] => { results := [.lit (.bool true)], args := [d1, d2, d3] }
  | _ => none }
def bigCuts2Row : OpenClaim := { program := "ythaokkmbghgopaa", sum := "45011c7ad067a40083080592c80598fc35bc98f18451d4dd6bede7d003a5d129", func := "rendezvous/renlaw2.BigCuts2", spec := "bigCuts2", apart := false }
def BigCuts2Said : Prop := bigCuts2Row.holds Try.pinned (OpenSpec.ofChange bigCuts2Spec)

/-- ITS FALSE NEIGHBOUR: 'it returns false'. Refute it at one input. -/
def bigCuts2Wrong : ChangeSpec := { name := "bigCuts2", fn := fun _ => fun
  | [d1, d2, d3] => { results := [.lit (.bool false)], args := [d1, d2, d3] }
  | _ => none }
def BigCuts2WrongFalsely : Prop := bigCuts2Row.holds Try.pinned (OpenSpec.ofChange bigCuts2Wrong)

/-- 'renlaw2.BigInts': WHATEVER THE INPUT: true; the input reads as it did. -/
def bigIntsSpec : ChangeSpec := { name := "bigInts", fn := fun _ => fun
  | [d1, d2] => { results := [.lit (.bool true)], args := [d1, d2] }
  | _ => none }
def bigIntsRow : OpenClaim := { program := "ythaokkmbghgopaa", sum := "45011c7ad067a40083080592c80598fc35bc98f18451d4dd6bede7d003a5d129", func := "rendezvous/renlaw2.BigInts", spec := "bigInts", recurses := true, apart := false }
def BigIntsSaid : Prop := bigIntsRow.holds Try.pinned (OpenSpec.ofChange bigIntsSpec)

/-- ITS FALSE NEIGHBOUR: 'it returns false'. Refute it at one input. -/
def bigIntsWrong : ChangeSpec := { name := "bigInts", fn := fun _ => fun
  | [d1, d2] => { results := [.lit (.bool false)], args := [d1, d2] }
  | _ => none }
def BigIntsWrongFalsely : Prop := bigIntsRow.holds Try.pinned (OpenSpec.ofChange bigIntsWrong)

/- THE SECOND FORM. 'bulk': how many values and letters a reading holds, each counted each time it is reached (what is shared counts as often as it is met; a slice's spare places count too). A statement '..UptoSaid' is the law's where the arguments, and the package variables that the reading takes, are together of bulk at most 1048576: NARROWER than '..Said'. Prove '..Said' where nothing that the law and all that it calls make is longer than what came in: it says more and counts as full. Else prove '..UptoSaid'. A law counts once. -/
mutual
def uptoBulk {H : Type} : DataW H → Nat
  | .lit (.string bytes) => bytes.length + 1
  | .lit _ => 1
  | .nil => 1
  | .ptr d => uptoBulk d + 1
  | .slice elems spare => uptoBulkAll elems + uptoBulkAll spare + 1
  | .agg parts => uptoBulkAll parts + 1
  | .iface _ d => uptoBulk d + 1
  | .map entries => uptoBulkEntries entries + 1
  | .held _ => 1
def uptoBulkAll {H : Type} : List (DataW H) → Nat
  | [] => 0
  | d :: r => uptoBulk d + uptoBulkAll r
def uptoBulkEntries {H : Type} : List (Lit × DataW H) → Nat
  | [] => 0
  | x :: r => uptoBulkEntry x + uptoBulkEntries r
def uptoBulkEntry {H : Type} : Lit × DataW H → Nat
  | (.string bytes, d) => bytes.length + uptoBulk d + 1
  | (_, d) => uptoBulk d + 1
 end
def uptoSmall : (H : Type) → List (DataW H) → Bool := fun _ ds => decide (uptoBulkAll ds ≤ 1048576)
def OpenSpec.upto (s : _root_.Go.ChangeSpec) : _root_.Go.OpenSpec := { _root_.Go.OpenSpec.ofChange s with cond := some uptoSmall }

/-- 'renlaw2.BigReckons', WHERE WHAT IT READS IS OF BULK AT MOST 1048576: true; the input reads as it did. -/
def bigReckonsUptoRow : OpenClaim := { program := "ythaokkmbghgopaa", sum := "45011c7ad067a40083080592c80598fc35bc98f18451d4dd6bede7d003a5d129", func := "rendezvous/renlaw2.BigReckons", spec := "bigReckons", apart := false, narrowed := true }
def BigReckonsUptoSaid : Prop := bigReckonsUptoRow.holds Try.pinned (OpenSpec.upto bigReckonsSpec)

/-- 'renlaw2.BigCuts', WHERE WHAT IT READS IS OF BULK AT MOST 1048576: true; the input reads as it did. -/
def bigCutsUptoRow : OpenClaim := { program := "ythaokkmbghgopaa", sum := "45011c7ad067a40083080592c80598fc35bc98f18451d4dd6bede7d003a5d129", func := "rendezvous/renlaw2.BigCuts", spec := "bigCuts", apart := false, narrowed := true }
def BigCutsUptoSaid : Prop := bigCutsUptoRow.holds Try.pinned (OpenSpec.upto bigCutsSpec)

/-- 'renlaw2.BigTexts', WHERE WHAT IT READS IS OF BULK AT MOST 1048576: true; the input reads as it did. -/
def bigTextsUptoRow : OpenClaim := { program := "ythaokkmbghgopaa", sum := "45011c7ad067a40083080592c80598fc35bc98f18451d4dd6bede7d003a5d129", func := "rendezvous/renlaw2.BigTexts", spec := "bigTexts", apart := false, narrowed := true }
def BigTextsUptoSaid : Prop := bigTextsUptoRow.holds Try.pinned (OpenSpec.upto bigTextsSpec)

/-- 'renlaw2.BigTurns', WHERE WHAT IT READS IS OF BULK AT MOST 1048576: true; the input reads as it did. -/
def bigTurnsUptoRow : OpenClaim := { program := "ythaokkmbghgopaa", sum := "45011c7ad067a40083080592c80598fc35bc98f18451d4dd6bede7d003a5d129", func := "rendezvous/renlaw2.BigTurns", spec := "bigTurns", apart := false, narrowed := true }
def BigTurnsUptoSaid : Prop := bigTurnsUptoRow.holds Try.pinned (OpenSpec.upto bigTurnsSpec)

/-- 'renlaw2.BigBack', WHERE WHAT IT READS IS OF BULK AT MOST 1048576: true; the input reads as it did. -/
def bigBackUptoRow : OpenClaim := { program := "ythaokkmbghgopaa", sum := "45011c7ad067a40083080592c80598fc35bc98f18451d4dd6bede7d003a5d129", func := "rendezvous/renlaw2.BigBack", spec := "bigBack", apart := false, narrowed := true }
def BigBackUptoSaid : Prop := bigBackUptoRow.holds Try.pinned (OpenSpec.upto bigBackSpec)

/-- 'renlaw2.BigOrders', WHERE WHAT IT READS IS OF BULK AT MOST 1048576: true; the input reads as it did. -/
def bigOrdersUptoRow : OpenClaim := { program := "ythaokkmbghgopaa", sum := "45011c7ad067a40083080592c80598fc35bc98f18451d4dd6bede7d003a5d129", func := "rendezvous/renlaw2.BigOrders", spec := "bigOrders", apart := false, narrowed := true }
def BigOrdersUptoSaid : Prop := bigOrdersUptoRow.holds Try.pinned (OpenSpec.upto bigOrdersSpec)

/-- 'renlaw2.BigWords', WHERE WHAT IT READS IS OF BULK AT MOST 1048576: true; the input reads as it did. -/
def bigWordsUptoRow : OpenClaim := { program := "ythaokkmbghgopaa", sum := "45011c7ad067a40083080592c80598fc35bc98f18451d4dd6bede7d003a5d129", func := "rendezvous/renlaw2.BigWords", spec := "bigWords", apart := false, narrowed := true }
def BigWordsUptoSaid : Prop := bigWordsUptoRow.holds Try.pinned (OpenSpec.upto bigWordsSpec)

/-- 'renlaw2.BigSigns', WHERE WHAT IT READS IS OF BULK AT MOST 1048576: true; the input reads as it did. -/
def bigSignsUptoRow : OpenClaim := { program := "ythaokkmbghgopaa", sum := "45011c7ad067a40083080592c80598fc35bc98f18451d4dd6bede7d003a5d129", func := "rendezvous/renlaw2.BigSigns", spec := "bigSigns", apart := false, narrowed := true }
def BigSignsUptoSaid : Prop := bigSignsUptoRow.holds Try.pinned (OpenSpec.upto bigSignsSpec)

/-- 'renlaw2.BigSpreads', WHERE WHAT IT READS IS OF BULK AT MOST 1048576: true; the input reads as it did. -/
def bigSpreadsUptoRow : OpenClaim := { program := "ythaokkmbghgopaa", sum := "45011c7ad067a40083080592c80598fc35bc98f18451d4dd6bede7d003a5d129", func := "rendezvous/renlaw2.BigSpreads", spec := "bigSpreads", apart := false, narrowed := true }
def BigSpreadsUptoSaid : Prop := bigSpreadsUptoRow.holds Try.pinned (OpenSpec.upto bigSpreadsSpec)

/-- 'renlaw2.BigCuts2', WHERE WHAT IT READS IS OF BULK AT MOST 1048576: true; the input reads as it did. -/
def bigCuts2UptoRow : OpenClaim := { program := "ythaokkmbghgopaa", sum := "45011c7ad067a40083080592c80598fc35bc98f18451d4dd6bede7d003a5d129", func := "rendezvous/renlaw2.BigCuts2", spec := "bigCuts2", apart := false, narrowed := true }
def BigCuts2UptoSaid : Prop := bigCuts2UptoRow.holds Try.pinned (OpenSpec.upto bigCuts2Spec)

/-- 'renlaw2.BigInts', WHERE WHAT IT READS IS OF BULK AT MOST 1048576: true; the input reads as it did. -/
def bigIntsUptoRow : OpenClaim := { program := "ythaokkmbghgopaa", sum := "45011c7ad067a40083080592c80598fc35bc98f18451d4dd6bede7d003a5d129", func := "rendezvous/renlaw2.BigInts", spec := "bigInts", recurses := true, apart := false, narrowed := true }
def BigIntsUptoSaid : Prop := bigIntsUptoRow.holds Try.pinned (OpenSpec.upto bigIntsSpec)

end Rows
end Go.Proofs.Ythaokkmbghgopaa
