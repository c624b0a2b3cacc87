/-
  DERIVED. GIVEN WITH THE SEED: THE CARDS: each row of YtmpecnhmdjilkaaDoorRows.lean that lists a variable, with what it lists TIED to the program's text (the seventh form; the later family's looks); each row that meets fmt, with fmt's text TOLD by the authors' own Lean function (tested against real Go, not proved from fmt's source: count such statements apart). THE CARD IS WHAT COUNTS. Prove the row's statement (the work); the ties are given (YtmpecnhmdjilkaaDoorTie.lean); close each card by the builder's one call (the guide's Derived/Test/ToyasCard.lean, 'card_holds'). Laid BY PROGRAM, IN A SANDBOX (cutbox-door.mjs). By AI agents, Wed Nov 11 2026. No macro, syntax, notation, axiom, sorry.
-/
import Derived.Test.YtmpecnhmdjilkaaDoorRows
import GoSem.ClaimSeven
namespace Go.Proofs.YtmpecnhmdjilkaaDoor
namespace Rows

/-- THE TIED CARD OF 'renlaw15.RelTells'. -/
def relTellsCard : Claim7 := { stood := { row := relTellsRow, standIns := [], harness := (true, "2cfb32c38aa3310ddde0f4ae2ca337d67a4e1191c9c41505c3c034ce071a327e"), looks := false }, kinds := [], alts := [], laidByText := true, laidKinds := [.data], laidTests := true, laidLooks := .later }
def RelTellsCardSaid : Prop := Claim7.holds Tryd.pinned (.plain (OpenSpec.ofChange relTellsSpec)) relTellsCard

/-- THE TIED CARD OF 'renlaw15.RelRanges'. -/
def relRangesCard : Claim7 := { stood := { row := relRangesRow, standIns := [], harness := (true, "2cfb32c38aa3310ddde0f4ae2ca337d67a4e1191c9c41505c3c034ce071a327e"), looks := false }, kinds := [], alts := [], laidByText := true, laidKinds := [.data], laidTests := true, laidLooks := .later }
def RelRangesCardSaid : Prop := Claim7.holds Tryd.pinned (.plain (OpenSpec.ofChange relRangesSpec)) relRangesCard

/-- THE TIED CARD OF 'renlaw15.RelGoes'. -/
def relGoesCard : Claim7 := { stood := { row := relGoesRow, standIns := [], harness := (true, "2cfb32c38aa3310ddde0f4ae2ca337d67a4e1191c9c41505c3c034ce071a327e"), looks := false }, kinds := [], alts := [], laidByText := true, laidKinds := [.data], laidTests := true, laidLooks := .later }
def RelGoesCardSaid : Prop := Claim7.holds Tryd.pinned (.plain (OpenSpec.ofChange relGoesSpec)) relGoesCard

/-- THE TIED CARD OF 'renlaw15.RelHeads'. -/
def relHeadsCard : Claim7 := { stood := { row := relHeadsRow, standIns := [], harness := (true, "2cfb32c38aa3310ddde0f4ae2ca337d67a4e1191c9c41505c3c034ce071a327e"), looks := false }, kinds := [], alts := [], laidByText := true, laidKinds := [.data], laidTests := true, laidLooks := .later }
def RelHeadsCardSaid : Prop := Claim7.holds Tryd.pinned (.plain (OpenSpec.ofChange relHeadsSpec)) relHeadsCard

/-- THE TIED CARD OF 'renlaw15.RelParts'. -/
def relPartsCard : Claim7 := { stood := { row := relPartsRow, standIns := [], harness := (true, "2cfb32c38aa3310ddde0f4ae2ca337d67a4e1191c9c41505c3c034ce071a327e"), looks := false }, kinds := [], alts := [], laidByText := true, laidKinds := [.data], laidTests := true, laidLooks := .later }
def RelPartsCardSaid : Prop := Claim7.holds Tryd.pinned (.plain (OpenSpec.ofChange relPartsSpec)) relPartsCard

/-- THE TIED CARD OF 'renlaw15.RelEdges'. -/
def relEdgesCard : Claim7 := { stood := { row := relEdgesRow, standIns := [], harness := (true, "2cfb32c38aa3310ddde0f4ae2ca337d67a4e1191c9c41505c3c034ce071a327e"), looks := false }, kinds := [], alts := [], laidByText := true, laidKinds := [.data], laidTests := true, laidLooks := .later }
def RelEdgesCardSaid : Prop := Claim7.holds Tryd.pinned (.plain (OpenSpec.ofChange relEdgesSpec)) relEdgesCard

/-- THE SECOND FORM's CARD OF 'renlaw15.RelTells'. -/
def relTellsUptoCard : Claim7 := { stood := { row := relTellsUptoRow, standIns := [], harness := (true, "2cfb32c38aa3310ddde0f4ae2ca337d67a4e1191c9c41505c3c034ce071a327e"), looks := false }, kinds := [], alts := [], laidByText := true, laidKinds := [.data], laidTests := true, laidLooks := .later }
def RelTellsUptoCardSaid : Prop := Claim7.holds Tryd.pinned (.plain (OpenSpec.upto relTellsSpec)) relTellsUptoCard

/-- THE SECOND FORM's CARD OF 'renlaw15.RelRanges'. -/
def relRangesUptoCard : Claim7 := { stood := { row := relRangesUptoRow, standIns := [], harness := (true, "2cfb32c38aa3310ddde0f4ae2ca337d67a4e1191c9c41505c3c034ce071a327e"), looks := false }, kinds := [], alts := [], laidByText := true, laidKinds := [.data], laidTests := true, laidLooks := .later }
def RelRangesUptoCardSaid : Prop := Claim7.holds Tryd.pinned (.plain (OpenSpec.upto relRangesSpec)) relRangesUptoCard

/-- THE SECOND FORM's CARD OF 'renlaw15.RelGoes'. -/
def relGoesUptoCard : Claim7 := { stood := { row := relGoesUptoRow, standIns := [], harness := (true, "2cfb32c38aa3310ddde0f4ae2ca337d67a4e1191c9c41505c3c034ce071a327e"), looks := false }, kinds := [], alts := [], laidByText := true, laidKinds := [.data], laidTests := true, laidLooks := .later }
def RelGoesUptoCardSaid : Prop := Claim7.holds Tryd.pinned (.plain (OpenSpec.upto relGoesSpec)) relGoesUptoCard

/-- THE SECOND FORM's CARD OF 'renlaw15.RelHeads'. -/
def relHeadsUptoCard : Claim7 := { stood := { row := relHeadsUptoRow, standIns := [], harness := (true, "2cfb32c38aa3310ddde0f4ae2ca337d67a4e1191c9c41505c3c034ce071a327e"), looks := false }, kinds := [], alts := [], laidByText := true, laidKinds := [.data], laidTests := true, laidLooks := .later }
def RelHeadsUptoCardSaid : Prop := Claim7.holds Tryd.pinned (.plain (OpenSpec.upto relHeadsSpec)) relHeadsUptoCard

/-- THE SECOND FORM's CARD OF 'renlaw15.RelParts'. -/
def relPartsUptoCard : Claim7 := { stood := { row := relPartsUptoRow, standIns := [], harness := (true, "2cfb32c38aa3310ddde0f4ae2ca337d67a4e1191c9c41505c3c034ce071a327e"), looks := false }, kinds := [], alts := [], laidByText := true, laidKinds := [.data], laidTests := true, laidLooks := .later }
def RelPartsUptoCardSaid : Prop := Claim7.holds Tryd.pinned (.plain (OpenSpec.upto relPartsSpec)) relPartsUptoCard

/-- THE SECOND FORM's CARD OF 'renlaw15.RelEdges'. -/
def relEdgesUptoCard : Claim7 := { stood := { row := relEdgesUptoRow, standIns := [], harness := (true, "2cfb32c38aa3310ddde0f4ae2ca337d67a4e1191c9c41505c3c034ce071a327e"), looks := false }, kinds := [], alts := [], laidByText := true, laidKinds := [.data], laidTests := true, laidLooks := .later }
def RelEdgesUptoCardSaid : Prop := Claim7.holds Tryd.pinned (.plain (OpenSpec.upto relEdgesSpec)) relEdgesUptoCard
end Rows
end Go.Proofs.YtmpecnhmdjilkaaDoor
