/-
  DERIVED. GIVEN WITH THE SEED: THE CARDS: each row of YtmfdlcicbiincaaDoorRows.lean that lists a variable, with what it lists TIED to the program's text (the seventh form; the later family's looks); each row that meets fmt, with fmt's text TOLD by the authors' own Lean function (tested against real Go, not proved from fmt's source: count such statements apart). THE CARD IS WHAT COUNTS. Prove the row's statement (the work); the ties are given (YtmfdlcicbiincaaDoorTie.lean); close each card by the builder's one call (the guide's Derived/Test/ToyasCard.lean, 'card_holds'). Laid BY PROGRAM, IN A SANDBOX (cutbox-door.mjs). By AI agents, Wed Nov 11 2026. No macro, syntax, notation, axiom, sorry.
-/
import Derived.Test.YtmfdlcicbiincaaDoorRows
import GoSem.ClaimSeven
namespace Go.Proofs.YtmfdlcicbiincaaDoor
namespace Rows

/-- THE TIED CARD OF 'renlaw15.RelTells'. -/
def relTellsCard : Claim7 := { stood := { row := relTellsRow, standIns := [], harness := (true, "dfa3082858ab0b5427b88d24e842a120c5c853f715f1f82cc415b54375585b6e"), looks := false }, kinds := [], alts := [], laidByText := true, laidKinds := [.data], laidTests := true, laidLooks := .later }
def RelTellsCardSaid : Prop := Claim7.holds Tryd.pinned (.plain (OpenSpec.ofChange relTellsSpec)) relTellsCard

/-- THE TIED CARD OF 'renlaw15.RelParts'. -/
def relPartsCard : Claim7 := { stood := { row := relPartsRow, standIns := [], harness := (true, "dfa3082858ab0b5427b88d24e842a120c5c853f715f1f82cc415b54375585b6e"), looks := false }, kinds := [], alts := [], laidByText := true, laidKinds := [.data], laidTests := true, laidLooks := .later }
def RelPartsCardSaid : Prop := Claim7.holds Tryd.pinned (.plain (OpenSpec.ofChange relPartsSpec)) relPartsCard

/-- THE TIED CARD OF 'renlaw16.ModelJudges'. -/
def modelJudgesCard : Claim7 := { stood := { row := modelJudgesRow, standIns := [], harness := (true, "dfa3082858ab0b5427b88d24e842a120c5c853f715f1f82cc415b54375585b6e"), looks := false }, kinds := [], alts := [], laidByText := true, laidKinds := [.data], laidTests := true, laidLooks := .later }
def ModelJudgesCardSaid : Prop := Claim7.holds Tryd.pinned (.plain (OpenSpec.ofChange modelJudgesSpec)) modelJudgesCard

/-- THE TIED CARD OF 'renlaw16.ModelHeads'. -/
def modelHeadsCard : Claim7 := { stood := { row := modelHeadsRow, standIns := [], harness := (true, "dfa3082858ab0b5427b88d24e842a120c5c853f715f1f82cc415b54375585b6e"), looks := false }, kinds := [], alts := [], laidByText := true, laidKinds := [.data], laidTests := true, laidLooks := .later }
def ModelHeadsCardSaid : Prop := Claim7.holds Tryd.pinned (.plain (OpenSpec.ofChange modelHeadsSpec)) modelHeadsCard

/-- THE TIED CARD OF 'renlaw16.ModelFlat'. -/
def modelFlatCard : Claim7 := { stood := { row := modelFlatRow, standIns := [], harness := (true, "dfa3082858ab0b5427b88d24e842a120c5c853f715f1f82cc415b54375585b6e"), looks := false }, kinds := [], alts := [], laidByText := true, laidKinds := [.data], laidTests := true, laidLooks := .later }
def ModelFlatCardSaid : Prop := Claim7.holds Tryd.pinned (.plain (OpenSpec.ofChange modelFlatSpec)) modelFlatCard

/-- THE TIED CARD OF 'renlaw16.ModelOrders'. -/
def modelOrdersCard : Claim7 := { stood := { row := modelOrdersRow, standIns := [], harness := (true, "dfa3082858ab0b5427b88d24e842a120c5c853f715f1f82cc415b54375585b6e"), looks := false }, kinds := [], alts := [], laidByText := true, laidKinds := [.data], laidTests := true, laidLooks := .later }
def ModelOrdersCardSaid : Prop := Claim7.holds Tryd.pinned (.plain (OpenSpec.ofChange modelOrdersSpec)) modelOrdersCard

/-- THE TIED CARD OF 'renlaw16.ModelSeq'. -/
def modelSeqCard : Claim7 := { stood := { row := modelSeqRow, standIns := [], harness := (true, "dfa3082858ab0b5427b88d24e842a120c5c853f715f1f82cc415b54375585b6e"), looks := false }, kinds := [], alts := [], laidByText := true, laidKinds := [.data], laidTests := true, laidLooks := .later }
def ModelSeqCardSaid : Prop := Claim7.holds Tryd.pinned (.plain (OpenSpec.ofChange modelSeqSpec)) modelSeqCard

/-- THE SECOND FORM's CARD OF 'renlaw15.RelTells'. -/
def relTellsUptoCard : Claim7 := { stood := { row := relTellsUptoRow, standIns := [], harness := (true, "dfa3082858ab0b5427b88d24e842a120c5c853f715f1f82cc415b54375585b6e"), looks := false }, kinds := [], alts := [], laidByText := true, laidKinds := [.data], laidTests := true, laidLooks := .later }
def RelTellsUptoCardSaid : Prop := Claim7.holds Tryd.pinned (.plain (OpenSpec.upto relTellsSpec)) relTellsUptoCard

/-- THE SECOND FORM's CARD OF 'renlaw15.RelParts'. -/
def relPartsUptoCard : Claim7 := { stood := { row := relPartsUptoRow, standIns := [], harness := (true, "dfa3082858ab0b5427b88d24e842a120c5c853f715f1f82cc415b54375585b6e"), looks := false }, kinds := [], alts := [], laidByText := true, laidKinds := [.data], laidTests := true, laidLooks := .later }
def RelPartsUptoCardSaid : Prop := Claim7.holds Tryd.pinned (.plain (OpenSpec.upto relPartsSpec)) relPartsUptoCard

/-- THE SECOND FORM's CARD OF 'renlaw16.ModelJudges'. -/
def modelJudgesUptoCard : Claim7 := { stood := { row := modelJudgesUptoRow, standIns := [], harness := (true, "dfa3082858ab0b5427b88d24e842a120c5c853f715f1f82cc415b54375585b6e"), looks := false }, kinds := [], alts := [], laidByText := true, laidKinds := [.data], laidTests := true, laidLooks := .later }
def ModelJudgesUptoCardSaid : Prop := Claim7.holds Tryd.pinned (.plain (OpenSpec.upto modelJudgesSpec)) modelJudgesUptoCard

/-- THE SECOND FORM's CARD OF 'renlaw16.ModelHeads'. -/
def modelHeadsUptoCard : Claim7 := { stood := { row := modelHeadsUptoRow, standIns := [], harness := (true, "dfa3082858ab0b5427b88d24e842a120c5c853f715f1f82cc415b54375585b6e"), looks := false }, kinds := [], alts := [], laidByText := true, laidKinds := [.data], laidTests := true, laidLooks := .later }
def ModelHeadsUptoCardSaid : Prop := Claim7.holds Tryd.pinned (.plain (OpenSpec.upto modelHeadsSpec)) modelHeadsUptoCard

/-- THE SECOND FORM's CARD OF 'renlaw16.ModelFlat'. -/
def modelFlatUptoCard : Claim7 := { stood := { row := modelFlatUptoRow, standIns := [], harness := (true, "dfa3082858ab0b5427b88d24e842a120c5c853f715f1f82cc415b54375585b6e"), looks := false }, kinds := [], alts := [], laidByText := true, laidKinds := [.data], laidTests := true, laidLooks := .later }
def ModelFlatUptoCardSaid : Prop := Claim7.holds Tryd.pinned (.plain (OpenSpec.upto modelFlatSpec)) modelFlatUptoCard

/-- THE SECOND FORM's CARD OF 'renlaw16.ModelOrders'. -/
def modelOrdersUptoCard : Claim7 := { stood := { row := modelOrdersUptoRow, standIns := [], harness := (true, "dfa3082858ab0b5427b88d24e842a120c5c853f715f1f82cc415b54375585b6e"), looks := false }, kinds := [], alts := [], laidByText := true, laidKinds := [.data], laidTests := true, laidLooks := .later }
def ModelOrdersUptoCardSaid : Prop := Claim7.holds Tryd.pinned (.plain (OpenSpec.upto modelOrdersSpec)) modelOrdersUptoCard

/-- THE SECOND FORM's CARD OF 'renlaw16.ModelSeq'. -/
def modelSeqUptoCard : Claim7 := { stood := { row := modelSeqUptoRow, standIns := [], harness := (true, "dfa3082858ab0b5427b88d24e842a120c5c853f715f1f82cc415b54375585b6e"), looks := false }, kinds := [], alts := [], laidByText := true, laidKinds := [.data], laidTests := true, laidLooks := .later }
def ModelSeqUptoCardSaid : Prop := Claim7.holds Tryd.pinned (.plain (OpenSpec.upto modelSeqSpec)) modelSeqUptoCard
end Rows
end Go.Proofs.YtmfdlcicbiincaaDoor
