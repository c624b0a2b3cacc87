/-
  DERIVED. GIVEN WITH THE SEED: THE CARDS: each row of YtmlfcmmgoiigkaaGreatDoorRows.lean that lists a variable, with what it lists TIED to the program's text (the seventh form; the later family's looks); each row that meets fmt, with fmt's text TOLD by the authors' own Lean function (tested against real Go, not proved from fmt's source: count such statements apart). THE CARD IS WHAT COUNTS. Prove the row's statement (the work); the ties are given (YtmlfcmmgoiigkaaGreatDoorTie.lean); close each card by the builder's one call (the guide's Derived/Test/ToyasCard.lean, 'card_holds'). Laid BY PROGRAM, IN A SANDBOX (cutbox-door.mjs). By AI agents, Wed Nov 11 2026. No macro, syntax, notation, axiom, sorry.
-/
import Derived.Test.YtmlfcmmgoiigkaaGreatDoorRows
import GoSem.ClaimSeven
namespace Go.Proofs.YtmlfcmmgoiigkaaGreatDoor
namespace Rows

/-- THE TIED CARD OF 'renlaw10.ConvTells'. -/
def convTellsCard : Claim7 := { stood := { row := convTellsRow, standIns := [], harness := (true, "d772355ee63d39e765f335ebdd2c481e994e67078f6e0851efc60f676bc8b0c3"), looks := true }, kinds := [], alts := [], laidByText := true, laidKinds := [.data, .data, .data, .data, .sentinel, .sentinel, .pinned], laidTests := true, laidLooks := .later }
def ConvTellsCardSaid : Prop := Claim7.holds Tryz.pinned (.plain (OpenSpec.ofChange convTellsSpec)) convTellsCard

/-- THE TIED CARD OF 'renlaw10.ConvCompares'. -/
def convComparesCard : Claim7 := { stood := { row := convComparesRow, standIns := [], harness := (true, "d772355ee63d39e765f335ebdd2c481e994e67078f6e0851efc60f676bc8b0c3"), looks := true }, kinds := [], alts := [], laidByText := true, laidKinds := [.data, .data, .data, .data, .sentinel, .sentinel, .pinned], laidTests := true, laidLooks := .later }
def ConvComparesCardSaid : Prop := Claim7.holds Tryz.pinned (.plain (OpenSpec.ofChange convComparesSpec)) convComparesCard

/-- THE TIED CARD OF 'renlaw10.ConvMakes'. -/
def convMakesCard : Claim7 := { stood := { row := convMakesRow, standIns := [], harness := (true, "d772355ee63d39e765f335ebdd2c481e994e67078f6e0851efc60f676bc8b0c3"), looks := true }, kinds := [], alts := [], laidByText := true, laidKinds := [.data, .data, .data, .data, .sentinel, .sentinel, .pinned], laidTests := true, laidLooks := .later }
def ConvMakesCardSaid : Prop := Claim7.holds Tryz.pinned (.plain (OpenSpec.ofChange convMakesSpec)) convMakesCard

/-- THE TIED CARD OF 'renlaw10.ConvTurns'. -/
def convTurnsCard : Claim7 := { stood := { row := convTurnsRow, standIns := [], harness := (true, "d772355ee63d39e765f335ebdd2c481e994e67078f6e0851efc60f676bc8b0c3"), looks := true }, kinds := [], alts := [], laidByText := true, laidKinds := [.data, .data, .data, .data, .sentinel, .sentinel, .pinned], laidTests := true, laidLooks := .later }
def ConvTurnsCardSaid : Prop := Claim7.holds Tryz.pinned (.plain (OpenSpec.ofChange convTurnsSpec)) convTurnsCard

/-- THE TIED CARD OF 'renlaw10.ConvMay'. -/
def convMayCard : Claim7 := { stood := { row := convMayRow, standIns := [], harness := (true, "d772355ee63d39e765f335ebdd2c481e994e67078f6e0851efc60f676bc8b0c3"), looks := true }, kinds := [], alts := [], laidByText := true, laidKinds := [.data, .data, .data, .data, .sentinel, .sentinel, .pinned], laidTests := true, laidLooks := .later }
def ConvMayCardSaid : Prop := Claim7.holds Tryz.pinned (.plain (OpenSpec.ofChange convMaySpec)) convMayCard

/-- THE TIED CARD OF 'renlaw10.ConvOrder'. -/
def convOrderCard : Claim7 := { stood := { row := convOrderRow, standIns := [], harness := (true, "d772355ee63d39e765f335ebdd2c481e994e67078f6e0851efc60f676bc8b0c3"), looks := true }, kinds := [], alts := [], laidByText := true, laidKinds := [.data, .data, .data, .data, .sentinel, .sentinel, .pinned], laidTests := true, laidLooks := .later }
def ConvOrderCardSaid : Prop := Claim7.holds Tryz.pinned (.plain (OpenSpec.ofChange convOrderSpec)) convOrderCard

/-- THE TIED CARD OF 'renlaw10.ConvIndices'. -/
def convIndicesCard : Claim7 := { stood := { row := convIndicesRow, standIns := [], harness := (true, "d772355ee63d39e765f335ebdd2c481e994e67078f6e0851efc60f676bc8b0c3"), looks := true }, kinds := [], alts := [], laidByText := true, laidKinds := [.data, .data, .data, .data, .sentinel, .sentinel, .pinned], laidTests := true, laidLooks := .later }
def ConvIndicesCardSaid : Prop := Claim7.holds Tryz.pinned (.plain (OpenSpec.ofChange convIndicesSpec)) convIndicesCard

/-- THE SECOND FORM's CARD OF 'renlaw10.ConvTells'. -/
def convTellsUptoCard : Claim7 := { stood := { row := convTellsUptoRow, standIns := [], harness := (true, "d772355ee63d39e765f335ebdd2c481e994e67078f6e0851efc60f676bc8b0c3"), looks := true }, kinds := [], alts := [], laidByText := true, laidKinds := [.data, .data, .data, .data, .sentinel, .sentinel, .pinned], laidTests := true, laidLooks := .later }
def ConvTellsUptoCardSaid : Prop := Claim7.holds Tryz.pinned (.plain (OpenSpec.upto convTellsSpec)) convTellsUptoCard

/-- THE SECOND FORM's CARD OF 'renlaw10.ConvCompares'. -/
def convComparesUptoCard : Claim7 := { stood := { row := convComparesUptoRow, standIns := [], harness := (true, "d772355ee63d39e765f335ebdd2c481e994e67078f6e0851efc60f676bc8b0c3"), looks := true }, kinds := [], alts := [], laidByText := true, laidKinds := [.data, .data, .data, .data, .sentinel, .sentinel, .pinned], laidTests := true, laidLooks := .later }
def ConvComparesUptoCardSaid : Prop := Claim7.holds Tryz.pinned (.plain (OpenSpec.upto convComparesSpec)) convComparesUptoCard

/-- THE SECOND FORM's CARD OF 'renlaw10.ConvMakes'. -/
def convMakesUptoCard : Claim7 := { stood := { row := convMakesUptoRow, standIns := [], harness := (true, "d772355ee63d39e765f335ebdd2c481e994e67078f6e0851efc60f676bc8b0c3"), looks := true }, kinds := [], alts := [], laidByText := true, laidKinds := [.data, .data, .data, .data, .sentinel, .sentinel, .pinned], laidTests := true, laidLooks := .later }
def ConvMakesUptoCardSaid : Prop := Claim7.holds Tryz.pinned (.plain (OpenSpec.upto convMakesSpec)) convMakesUptoCard

/-- THE SECOND FORM's CARD OF 'renlaw10.ConvTurns'. -/
def convTurnsUptoCard : Claim7 := { stood := { row := convTurnsUptoRow, standIns := [], harness := (true, "d772355ee63d39e765f335ebdd2c481e994e67078f6e0851efc60f676bc8b0c3"), looks := true }, kinds := [], alts := [], laidByText := true, laidKinds := [.data, .data, .data, .data, .sentinel, .sentinel, .pinned], laidTests := true, laidLooks := .later }
def ConvTurnsUptoCardSaid : Prop := Claim7.holds Tryz.pinned (.plain (OpenSpec.upto convTurnsSpec)) convTurnsUptoCard

/-- THE SECOND FORM's CARD OF 'renlaw10.ConvMay'. -/
def convMayUptoCard : Claim7 := { stood := { row := convMayUptoRow, standIns := [], harness := (true, "d772355ee63d39e765f335ebdd2c481e994e67078f6e0851efc60f676bc8b0c3"), looks := true }, kinds := [], alts := [], laidByText := true, laidKinds := [.data, .data, .data, .data, .sentinel, .sentinel, .pinned], laidTests := true, laidLooks := .later }
def ConvMayUptoCardSaid : Prop := Claim7.holds Tryz.pinned (.plain (OpenSpec.upto convMaySpec)) convMayUptoCard

/-- THE SECOND FORM's CARD OF 'renlaw10.ConvOrder'. -/
def convOrderUptoCard : Claim7 := { stood := { row := convOrderUptoRow, standIns := [], harness := (true, "d772355ee63d39e765f335ebdd2c481e994e67078f6e0851efc60f676bc8b0c3"), looks := true }, kinds := [], alts := [], laidByText := true, laidKinds := [.data, .data, .data, .data, .sentinel, .sentinel, .pinned], laidTests := true, laidLooks := .later }
def ConvOrderUptoCardSaid : Prop := Claim7.holds Tryz.pinned (.plain (OpenSpec.upto convOrderSpec)) convOrderUptoCard

/-- THE SECOND FORM's CARD OF 'renlaw10.ConvIndices'. -/
def convIndicesUptoCard : Claim7 := { stood := { row := convIndicesUptoRow, standIns := [], harness := (true, "d772355ee63d39e765f335ebdd2c481e994e67078f6e0851efc60f676bc8b0c3"), looks := true }, kinds := [], alts := [], laidByText := true, laidKinds := [.data, .data, .data, .data, .sentinel, .sentinel, .pinned], laidTests := true, laidLooks := .later }
def ConvIndicesUptoCardSaid : Prop := Claim7.holds Tryz.pinned (.plain (OpenSpec.upto convIndicesSpec)) convIndicesUptoCard
end Rows
end Go.Proofs.YtmlfcmmgoiigkaaGreatDoor
