/-
  DERIVED. GIVEN WITH THE SEED: THE CARDS: each row of YtccomiigdpfbpaaDoorRows.lean that lists a variable, with what it lists TIED to the program's text (the seventh form; the later family's looks); each row that meets fmt, with fmt's text TOLD by the authors' own Lean function (tested against real Go, not proved from fmt's source: count such statements apart). THE CARD IS WHAT COUNTS. Prove the row's statement (the work); the ties are given (YtccomiigdpfbpaaDoorTie.lean); close each card by the builder's one call (the guide's Derived/Test/ToyasCard.lean, 'card_holds'). Laid BY PROGRAM, IN A SANDBOX (cutbox-door.mjs). By AI agents, Wed Nov 11 2026. No macro, syntax, notation, axiom, sorry.
-/
import Derived.Test.YtccomiigdpfbpaaDoorRows
import GoSem.ClaimSeven
namespace Go.Proofs.YtccomiigdpfbpaaDoor
namespace Rows

/-- THE TIED CARD OF 'typecaselaw13.BlockEnds'. -/
def blockEndsCard : Claim7 := { stood := { row := blockEndsRow, standIns := [], harness := (true, "dfa826503113212a7c380af3ef073e47a2c919757887460019a40d57a368c287"), looks := true }, kinds := [], alts := [], laidByText := true, laidKinds := [.handle], laidTests := true, laidLooks := .later }
def BlockEndsCardSaid : Prop := Claim7.holds Tryd.pinned (.plain (OpenSpec.ofChange blockEndsSpec)) blockEndsCard

/-- THE TIED CARD OF 'typecaselaw13.BlockKinds'. -/
def blockKindsCard : Claim7 := { stood := { row := blockKindsRow, standIns := [], harness := (true, "dfa826503113212a7c380af3ef073e47a2c919757887460019a40d57a368c287"), looks := true }, kinds := [], alts := [], laidByText := true, laidKinds := [.handle], laidTests := true, laidLooks := .later }
def BlockKindsCardSaid : Prop := Claim7.holds Tryd.pinned (.plain (OpenSpec.ofChange blockKindsSpec)) blockKindsCard

/-- THE TIED CARD OF 'typecaselaw13.BlockBehind'. -/
def blockBehindCard : Claim7 := { stood := { row := blockBehindRow, standIns := [], harness := (true, "dfa826503113212a7c380af3ef073e47a2c919757887460019a40d57a368c287"), looks := true }, kinds := [], alts := [], laidByText := true, laidKinds := [.handle], laidTests := true, laidLooks := .later }
def BlockBehindCardSaid : Prop := Claim7.holds Tryd.pinned (.plain (OpenSpec.ofChange blockBehindSpec)) blockBehindCard

/-- THE TIED CARD OF 'typecaselaw13.BlockWithin'. -/
def blockWithinCard : Claim7 := { stood := { row := blockWithinRow, standIns := [], harness := (true, "dfa826503113212a7c380af3ef073e47a2c919757887460019a40d57a368c287"), looks := true }, kinds := [], alts := [], laidByText := true, laidKinds := [.handle], laidTests := true, laidLooks := .later }
def BlockWithinCardSaid : Prop := Claim7.holds Tryd.pinned (.plain (OpenSpec.ofChange blockWithinSpec)) blockWithinCard

/-- THE SECOND FORM's CARD OF 'typecaselaw13.BlockEnds'. -/
def blockEndsUptoCard : Claim7 := { stood := { row := blockEndsUptoRow, standIns := [], harness := (true, "dfa826503113212a7c380af3ef073e47a2c919757887460019a40d57a368c287"), looks := true }, kinds := [], alts := [], laidByText := true, laidKinds := [.handle], laidTests := true, laidLooks := .later }
def BlockEndsUptoCardSaid : Prop := Claim7.holds Tryd.pinned (.plain (OpenSpec.upto blockEndsSpec)) blockEndsUptoCard

/-- THE SECOND FORM's CARD OF 'typecaselaw13.BlockKinds'. -/
def blockKindsUptoCard : Claim7 := { stood := { row := blockKindsUptoRow, standIns := [], harness := (true, "dfa826503113212a7c380af3ef073e47a2c919757887460019a40d57a368c287"), looks := true }, kinds := [], alts := [], laidByText := true, laidKinds := [.handle], laidTests := true, laidLooks := .later }
def BlockKindsUptoCardSaid : Prop := Claim7.holds Tryd.pinned (.plain (OpenSpec.upto blockKindsSpec)) blockKindsUptoCard

/-- THE SECOND FORM's CARD OF 'typecaselaw13.BlockBehind'. -/
def blockBehindUptoCard : Claim7 := { stood := { row := blockBehindUptoRow, standIns := [], harness := (true, "dfa826503113212a7c380af3ef073e47a2c919757887460019a40d57a368c287"), looks := true }, kinds := [], alts := [], laidByText := true, laidKinds := [.handle], laidTests := true, laidLooks := .later }
def BlockBehindUptoCardSaid : Prop := Claim7.holds Tryd.pinned (.plain (OpenSpec.upto blockBehindSpec)) blockBehindUptoCard

/-- THE SECOND FORM's CARD OF 'typecaselaw13.BlockWithin'. -/
def blockWithinUptoCard : Claim7 := { stood := { row := blockWithinUptoRow, standIns := [], harness := (true, "dfa826503113212a7c380af3ef073e47a2c919757887460019a40d57a368c287"), looks := true }, kinds := [], alts := [], laidByText := true, laidKinds := [.handle], laidTests := true, laidLooks := .later }
def BlockWithinUptoCardSaid : Prop := Claim7.holds Tryd.pinned (.plain (OpenSpec.upto blockWithinSpec)) blockWithinUptoCard
end Rows
end Go.Proofs.YtccomiigdpfbpaaDoor
