/-
  DERIVED. GIVEN WITH THE SEED: THE CARDS: each row of YtbhfblogjlpnlabDoorRows.lean that lists a variable, with what it lists TIED to the program's text (the seventh form; the later family's looks); each row that meets fmt, with fmt's text TOLD by the authors' own Lean function (tested against real Go, not proved from fmt's source: count such statements apart). THE CARD IS WHAT COUNTS. Prove the row's statement (the work); the ties are given (YtbhfblogjlpnlabDoorTie.lean); close each card by the builder's one call (the guide's Derived/Test/ToyasCard.lean, 'card_holds'). Laid BY PROGRAM, IN A SANDBOX (cutbox-door.mjs). By AI agents, Wed Nov 11 2026. No macro, syntax, notation, axiom, sorry.
-/
import Derived.Test.YtbhfblogjlpnlabDoorRows
import GoSem.ClaimSeven
namespace Go.Proofs.YtbhfblogjlpnlabDoor
namespace Rows

/-- THE TIED CARD OF 'typecaselaw11.ExprCounts'. -/
def exprCountsCard : Claim7 := { stood := { row := exprCountsRow, standIns := [], harness := (true, "07cb6ea9ef04120870c4ff6db3a03e957acf7c36b1d03a0832806fd221ed5c45"), looks := true }, kinds := [], alts := [], laidByText := true, laidKinds := [.data, .data, .data, .handle], laidTests := true, laidLooks := .later }
def ExprCountsCardSaid : Prop := Claim7.holds Tryd.pinned (.plain (OpenSpec.ofChange exprCountsSpec)) exprCountsCard

/-- THE TIED CARD OF 'typecaselaw14.MacroHeads'. -/
def macroHeadsCard : Claim7 := { stood := { row := macroHeadsRow, standIns := [], harness := (true, "07cb6ea9ef04120870c4ff6db3a03e957acf7c36b1d03a0832806fd221ed5c45"), looks := true }, kinds := [], alts := [], laidByText := true, laidKinds := [.handle], laidTests := true, laidLooks := .later }
def MacroHeadsCardSaid : Prop := Claim7.holds Tryd.pinned (.plain (OpenSpec.ofChange macroHeadsSpec)) macroHeadsCard

/-- THE TIED CARD OF 'typecaselaw14.MacroBinds'. -/
def macroBindsCard : Claim7 := { stood := { row := macroBindsRow, standIns := [], harness := (true, "07cb6ea9ef04120870c4ff6db3a03e957acf7c36b1d03a0832806fd221ed5c45"), looks := true }, kinds := [], alts := [], laidByText := true, laidKinds := [.handle], laidTests := true, laidLooks := .later }
def MacroBindsCardSaid : Prop := Claim7.holds Tryd.pinned (.plain (OpenSpec.ofChange macroBindsSpec)) macroBindsCard

/-- THE TIED CARD OF 'typecaselaw14.MacroPlain'. -/
def macroPlainCard : Claim7 := { stood := { row := macroPlainRow, standIns := [], harness := (true, "07cb6ea9ef04120870c4ff6db3a03e957acf7c36b1d03a0832806fd221ed5c45"), looks := true }, kinds := [], alts := [], laidByText := true, laidKinds := [.handle], laidTests := true, laidLooks := .later }
def MacroPlainCardSaid : Prop := Claim7.holds Tryd.pinned (.plain (OpenSpec.ofChange macroPlainSpec)) macroPlainCard

/-- THE TIED CARD OF 'typecaselaw14.MacroParts'. -/
def macroPartsCard : Claim7 := { stood := { row := macroPartsRow, standIns := [], harness := (true, "07cb6ea9ef04120870c4ff6db3a03e957acf7c36b1d03a0832806fd221ed5c45"), looks := true }, kinds := [], alts := [], laidByText := true, laidKinds := [.handle], laidTests := true, laidLooks := .later }
def MacroPartsCardSaid : Prop := Claim7.holds Tryd.pinned (.plain (OpenSpec.ofChange macroPartsSpec)) macroPartsCard

/-- THE TIED CARD OF 'typecaselaw19.PlaceLies'. -/
def placeLiesCard : Claim7 := { stood := { row := placeLiesRow, standIns := [], harness := (true, "07cb6ea9ef04120870c4ff6db3a03e957acf7c36b1d03a0832806fd221ed5c45"), looks := true }, kinds := [], alts := [], laidByText := true, laidKinds := [.handle], laidTests := true, laidLooks := .later }
def PlaceLiesCardSaid : Prop := Claim7.holds Tryd.pinned (.plain (OpenSpec.ofChange placeLiesSpec)) placeLiesCard

/-- THE TIED CARD OF 'typecaselaw19.PlaceLabels'. -/
def placeLabelsCard : Claim7 := { stood := { row := placeLabelsRow, standIns := [], harness := (true, "07cb6ea9ef04120870c4ff6db3a03e957acf7c36b1d03a0832806fd221ed5c45"), looks := true }, kinds := [], alts := [], laidByText := true, laidKinds := [.handle], laidTests := true, laidLooks := .later }
def PlaceLabelsCardSaid : Prop := Claim7.holds Tryd.pinned (.plain (OpenSpec.ofChange placeLabelsSpec)) placeLabelsCard

/-- THE TIED CARD OF 'typecaselaw19.PlaceGrows'. -/
def placeGrowsCard : Claim7 := { stood := { row := placeGrowsRow, standIns := [], harness := (true, "07cb6ea9ef04120870c4ff6db3a03e957acf7c36b1d03a0832806fd221ed5c45"), looks := true }, kinds := [], alts := [], laidByText := true, laidKinds := [.handle], laidTests := true, laidLooks := .later }
def PlaceGrowsCardSaid : Prop := Claim7.holds Tryd.pinned (.plain (OpenSpec.ofChange placeGrowsSpec)) placeGrowsCard

/-- THE TIED CARD OF 'typecaselaw19.PlaceSteps'. -/
def placeStepsCard : Claim7 := { stood := { row := placeStepsRow, standIns := [], harness := (true, "07cb6ea9ef04120870c4ff6db3a03e957acf7c36b1d03a0832806fd221ed5c45"), looks := true }, kinds := [], alts := [], laidByText := true, laidKinds := [.handle], laidTests := true, laidLooks := .later }
def PlaceStepsCardSaid : Prop := Claim7.holds Tryd.pinned (.plain (OpenSpec.ofChange placeStepsSpec)) placeStepsCard

/-- THE SECOND FORM's CARD OF 'typecaselaw11.ExprCounts'. -/
def exprCountsUptoCard : Claim7 := { stood := { row := exprCountsUptoRow, standIns := [], harness := (true, "07cb6ea9ef04120870c4ff6db3a03e957acf7c36b1d03a0832806fd221ed5c45"), looks := true }, kinds := [], alts := [], laidByText := true, laidKinds := [.data, .data, .data, .handle], laidTests := true, laidLooks := .later }
def ExprCountsUptoCardSaid : Prop := Claim7.holds Tryd.pinned (.plain (OpenSpec.upto exprCountsSpec)) exprCountsUptoCard

/-- THE SECOND FORM's CARD OF 'typecaselaw14.MacroHeads'. -/
def macroHeadsUptoCard : Claim7 := { stood := { row := macroHeadsUptoRow, standIns := [], harness := (true, "07cb6ea9ef04120870c4ff6db3a03e957acf7c36b1d03a0832806fd221ed5c45"), looks := true }, kinds := [], alts := [], laidByText := true, laidKinds := [.handle], laidTests := true, laidLooks := .later }
def MacroHeadsUptoCardSaid : Prop := Claim7.holds Tryd.pinned (.plain (OpenSpec.upto macroHeadsSpec)) macroHeadsUptoCard

/-- THE SECOND FORM's CARD OF 'typecaselaw14.MacroBinds'. -/
def macroBindsUptoCard : Claim7 := { stood := { row := macroBindsUptoRow, standIns := [], harness := (true, "07cb6ea9ef04120870c4ff6db3a03e957acf7c36b1d03a0832806fd221ed5c45"), looks := true }, kinds := [], alts := [], laidByText := true, laidKinds := [.handle], laidTests := true, laidLooks := .later }
def MacroBindsUptoCardSaid : Prop := Claim7.holds Tryd.pinned (.plain (OpenSpec.upto macroBindsSpec)) macroBindsUptoCard

/-- THE SECOND FORM's CARD OF 'typecaselaw14.MacroPlain'. -/
def macroPlainUptoCard : Claim7 := { stood := { row := macroPlainUptoRow, standIns := [], harness := (true, "07cb6ea9ef04120870c4ff6db3a03e957acf7c36b1d03a0832806fd221ed5c45"), looks := true }, kinds := [], alts := [], laidByText := true, laidKinds := [.handle], laidTests := true, laidLooks := .later }
def MacroPlainUptoCardSaid : Prop := Claim7.holds Tryd.pinned (.plain (OpenSpec.upto macroPlainSpec)) macroPlainUptoCard

/-- THE SECOND FORM's CARD OF 'typecaselaw14.MacroParts'. -/
def macroPartsUptoCard : Claim7 := { stood := { row := macroPartsUptoRow, standIns := [], harness := (true, "07cb6ea9ef04120870c4ff6db3a03e957acf7c36b1d03a0832806fd221ed5c45"), looks := true }, kinds := [], alts := [], laidByText := true, laidKinds := [.handle], laidTests := true, laidLooks := .later }
def MacroPartsUptoCardSaid : Prop := Claim7.holds Tryd.pinned (.plain (OpenSpec.upto macroPartsSpec)) macroPartsUptoCard

/-- THE SECOND FORM's CARD OF 'typecaselaw19.PlaceLies'. -/
def placeLiesUptoCard : Claim7 := { stood := { row := placeLiesUptoRow, standIns := [], harness := (true, "07cb6ea9ef04120870c4ff6db3a03e957acf7c36b1d03a0832806fd221ed5c45"), looks := true }, kinds := [], alts := [], laidByText := true, laidKinds := [.handle], laidTests := true, laidLooks := .later }
def PlaceLiesUptoCardSaid : Prop := Claim7.holds Tryd.pinned (.plain (OpenSpec.upto placeLiesSpec)) placeLiesUptoCard

/-- THE SECOND FORM's CARD OF 'typecaselaw19.PlaceLabels'. -/
def placeLabelsUptoCard : Claim7 := { stood := { row := placeLabelsUptoRow, standIns := [], harness := (true, "07cb6ea9ef04120870c4ff6db3a03e957acf7c36b1d03a0832806fd221ed5c45"), looks := true }, kinds := [], alts := [], laidByText := true, laidKinds := [.handle], laidTests := true, laidLooks := .later }
def PlaceLabelsUptoCardSaid : Prop := Claim7.holds Tryd.pinned (.plain (OpenSpec.upto placeLabelsSpec)) placeLabelsUptoCard

/-- THE SECOND FORM's CARD OF 'typecaselaw19.PlaceGrows'. -/
def placeGrowsUptoCard : Claim7 := { stood := { row := placeGrowsUptoRow, standIns := [], harness := (true, "07cb6ea9ef04120870c4ff6db3a03e957acf7c36b1d03a0832806fd221ed5c45"), looks := true }, kinds := [], alts := [], laidByText := true, laidKinds := [.handle], laidTests := true, laidLooks := .later }
def PlaceGrowsUptoCardSaid : Prop := Claim7.holds Tryd.pinned (.plain (OpenSpec.upto placeGrowsSpec)) placeGrowsUptoCard

/-- THE SECOND FORM's CARD OF 'typecaselaw19.PlaceSteps'. -/
def placeStepsUptoCard : Claim7 := { stood := { row := placeStepsUptoRow, standIns := [], harness := (true, "07cb6ea9ef04120870c4ff6db3a03e957acf7c36b1d03a0832806fd221ed5c45"), looks := true }, kinds := [], alts := [], laidByText := true, laidKinds := [.handle], laidTests := true, laidLooks := .later }
def PlaceStepsUptoCardSaid : Prop := Claim7.holds Tryd.pinned (.plain (OpenSpec.upto placeStepsSpec)) placeStepsUptoCard
end Rows
end Go.Proofs.YtbhfblogjlpnlabDoor
