/-
  DERIVED. GIVEN WITH THE SEED: THE CARDS: each row of YtakahpbondaidaaGreatDoorRows.lean that lists a variable, with what it lists TIED to the program's text (the seventh form; the later family's looks); each row that meets fmt, with fmt's text TOLD by the authors' own Lean function (tested against real Go, not proved from fmt's source: count such statements apart). THE CARD IS WHAT COUNTS. Prove the row's statement (the work); the ties are given (YtakahpbondaidaaGreatDoorTie.lean); close each card by the builder's one call (the guide's Derived/Test/ToyasCard.lean, 'card_holds'). Laid BY PROGRAM, IN A SANDBOX (cutbox-door.mjs). By AI agents, Wed Nov 11 2026. No macro, syntax, notation, axiom, sorry.
-/
import Derived.Test.YtakahpbondaidaaGreatDoorRows
import GoSem.ClaimSeven
namespace Go.Proofs.YtakahpbondaidaaGreatDoor
namespace Rows

/-- THE TIED CARD OF 'renlaw10.ConvTells'. -/
def convTellsCard : Claim7 := { stood := { row := convTellsRow, standIns := [], harness := (true, "339ae6686f9d0a63c25293592910f24b7efd39be309a98ae9948b5120b830402"), looks := true }, kinds := [], alts := [], laidByText := true, laidKinds := [.data, .data, .data, .data, .sentinel, .sentinel, .pinned], laidTests := true, laidLooks := .later }
def ConvTellsCardSaid : Prop := Claim7.holds Tryz.pinned (.plain (OpenSpec.ofChange convTellsSpec)) convTellsCard

/-- THE TIED CARD OF 'renlaw10.ConvCompares'. -/
def convComparesCard : Claim7 := { stood := { row := convComparesRow, standIns := [], harness := (true, "339ae6686f9d0a63c25293592910f24b7efd39be309a98ae9948b5120b830402"), looks := true }, kinds := [], alts := [], laidByText := true, laidKinds := [.data, .data, .data, .data, .sentinel, .sentinel, .pinned], laidTests := true, laidLooks := .later }
def ConvComparesCardSaid : Prop := Claim7.holds Tryz.pinned (.plain (OpenSpec.ofChange convComparesSpec)) convComparesCard

/-- THE TIED CARD OF 'renlaw11.OperUnary'. -/
def operUnaryCard : Claim7 := { stood := { row := operUnaryRow, standIns := [], harness := (true, "339ae6686f9d0a63c25293592910f24b7efd39be309a98ae9948b5120b830402"), looks := true }, kinds := [], alts := [], laidByText := true, laidKinds := [.data, .data, .data, .data, .sentinel, .sentinel, .pinned], laidTests := true, laidLooks := .later }
def OperUnaryCardSaid : Prop := Claim7.holds Tryz.pinned (.plain (OpenSpec.ofChange operUnarySpec)) operUnaryCard

/-- THE SECOND FORM's CARD OF 'renlaw10.ConvTells'. -/
def convTellsUptoCard : Claim7 := { stood := { row := convTellsUptoRow, standIns := [], harness := (true, "339ae6686f9d0a63c25293592910f24b7efd39be309a98ae9948b5120b830402"), looks := true }, kinds := [], alts := [], laidByText := true, laidKinds := [.data, .data, .data, .data, .sentinel, .sentinel, .pinned], laidTests := true, laidLooks := .later }
def ConvTellsUptoCardSaid : Prop := Claim7.holds Tryz.pinned (.plain (OpenSpec.upto convTellsSpec)) convTellsUptoCard

/-- THE SECOND FORM's CARD OF 'renlaw10.ConvCompares'. -/
def convComparesUptoCard : Claim7 := { stood := { row := convComparesUptoRow, standIns := [], harness := (true, "339ae6686f9d0a63c25293592910f24b7efd39be309a98ae9948b5120b830402"), looks := true }, kinds := [], alts := [], laidByText := true, laidKinds := [.data, .data, .data, .data, .sentinel, .sentinel, .pinned], laidTests := true, laidLooks := .later }
def ConvComparesUptoCardSaid : Prop := Claim7.holds Tryz.pinned (.plain (OpenSpec.upto convComparesSpec)) convComparesUptoCard

/-- THE SECOND FORM's CARD OF 'renlaw11.OperUnary'. -/
def operUnaryUptoCard : Claim7 := { stood := { row := operUnaryUptoRow, standIns := [], harness := (true, "339ae6686f9d0a63c25293592910f24b7efd39be309a98ae9948b5120b830402"), looks := true }, kinds := [], alts := [], laidByText := true, laidKinds := [.data, .data, .data, .data, .sentinel, .sentinel, .pinned], laidTests := true, laidLooks := .later }
def OperUnaryUptoCardSaid : Prop := Claim7.holds Tryz.pinned (.plain (OpenSpec.upto operUnarySpec)) operUnaryUptoCard
end Rows
end Go.Proofs.YtakahpbondaidaaGreatDoor
