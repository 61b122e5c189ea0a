/-
  DERIVED. GIVEN WITH THE SEED: THE CARDS: each row of YtdjddlebjbngfaaGreatDoorRows.lean that lists a variable, with what it lists TIED to the program's text (the seventh form; the later family's looks); each row that meets fmt, with fmt's text TOLD by the authors' own Lean function (tested against real Go, not proved from fmt's source: count such statements apart). THE CARD IS WHAT COUNTS. Prove the row's statement (the work); the ties are given (YtdjddlebjbngfaaGreatDoorTie.lean); close each card by the builder's one call (the guide's Derived/Test/ToyasCard.lean, 'card_holds'). Laid BY PROGRAM, IN A SANDBOX (cutbox-door.mjs). By AI agents, Wed Nov 11 2026. No macro, syntax, notation, axiom, sorry.
-/
import Derived.Test.YtdjddlebjbngfaaGreatDoorRows
import GoSem.ClaimSeven
namespace Go.Proofs.YtdjddlebjbngfaaGreatDoor
namespace Rows

/-- THE TIED CARD OF 'magpielaw15.ScanIs'. -/
def scanIsCard : Claim7 := { stood := { row := scanIsRow, standIns := [], harness := (true, "dc0cb2f82308e25dffb257a2540a1aadd8bf97081cc496ecde89038019a8eb20"), looks := true }, kinds := [], alts := [], laidByText := true, laidKinds := [.data, .pinned], laidTests := true, laidLooks := .later }
def ScanIsCardSaid : Prop := Claim7.holds Tryz.pinned (.plain (OpenSpec.ofChange scanIsSpec)) scanIsCard

/-- THE TIED CARD OF 'magpielaw15.ScanBatches'. -/
def scanBatchesCard : Claim7 := { stood := { row := scanBatchesRow, standIns := [], harness := (true, "dc0cb2f82308e25dffb257a2540a1aadd8bf97081cc496ecde89038019a8eb20"), looks := true }, kinds := [], alts := [], laidByText := true, laidKinds := [.data, .pinned], laidTests := true, laidLooks := .later }
def ScanBatchesCardSaid : Prop := Claim7.holds Tryz.pinned (.plain (OpenSpec.ofChange scanBatchesSpec)) scanBatchesCard

/-- THE TIED CARD OF 'magpielaw15.ScanOrder'. -/
def scanOrderCard : Claim7 := { stood := { row := scanOrderRow, standIns := [], harness := (true, "dc0cb2f82308e25dffb257a2540a1aadd8bf97081cc496ecde89038019a8eb20"), looks := true }, kinds := [], alts := [], laidByText := true, laidKinds := [.data, .pinned], laidTests := true, laidLooks := .later }
def ScanOrderCardSaid : Prop := Claim7.holds Tryz.pinned (.plain (OpenSpec.ofChange scanOrderSpec)) scanOrderCard

/-- THE TIED CARD OF 'magpielaw15.ScanAll'. -/
def scanAllCard : Claim7 := { stood := { row := scanAllRow, standIns := [], harness := (true, "dc0cb2f82308e25dffb257a2540a1aadd8bf97081cc496ecde89038019a8eb20"), looks := true }, kinds := [], alts := [], laidByText := true, laidKinds := [.data, .pinned], laidTests := true, laidLooks := .later }
def ScanAllCardSaid : Prop := Claim7.holds Tryz.pinned (.plain (OpenSpec.ofChange scanAllSpec)) scanAllCard

/-- THE SECOND FORM's CARD OF 'magpielaw15.ScanIs'. -/
def scanIsUptoCard : Claim7 := { stood := { row := scanIsUptoRow, standIns := [], harness := (true, "dc0cb2f82308e25dffb257a2540a1aadd8bf97081cc496ecde89038019a8eb20"), looks := true }, kinds := [], alts := [], laidByText := true, laidKinds := [.data, .pinned], laidTests := true, laidLooks := .later }
def ScanIsUptoCardSaid : Prop := Claim7.holds Tryz.pinned (.plain (OpenSpec.upto scanIsSpec)) scanIsUptoCard

/-- THE SECOND FORM's CARD OF 'magpielaw15.ScanBatches'. -/
def scanBatchesUptoCard : Claim7 := { stood := { row := scanBatchesUptoRow, standIns := [], harness := (true, "dc0cb2f82308e25dffb257a2540a1aadd8bf97081cc496ecde89038019a8eb20"), looks := true }, kinds := [], alts := [], laidByText := true, laidKinds := [.data, .pinned], laidTests := true, laidLooks := .later }
def ScanBatchesUptoCardSaid : Prop := Claim7.holds Tryz.pinned (.plain (OpenSpec.upto scanBatchesSpec)) scanBatchesUptoCard

/-- THE SECOND FORM's CARD OF 'magpielaw15.ScanOrder'. -/
def scanOrderUptoCard : Claim7 := { stood := { row := scanOrderUptoRow, standIns := [], harness := (true, "dc0cb2f82308e25dffb257a2540a1aadd8bf97081cc496ecde89038019a8eb20"), looks := true }, kinds := [], alts := [], laidByText := true, laidKinds := [.data, .pinned], laidTests := true, laidLooks := .later }
def ScanOrderUptoCardSaid : Prop := Claim7.holds Tryz.pinned (.plain (OpenSpec.upto scanOrderSpec)) scanOrderUptoCard

/-- THE SECOND FORM's CARD OF 'magpielaw15.ScanAll'. -/
def scanAllUptoCard : Claim7 := { stood := { row := scanAllUptoRow, standIns := [], harness := (true, "dc0cb2f82308e25dffb257a2540a1aadd8bf97081cc496ecde89038019a8eb20"), looks := true }, kinds := [], alts := [], laidByText := true, laidKinds := [.data, .pinned], laidTests := true, laidLooks := .later }
def ScanAllUptoCardSaid : Prop := Claim7.holds Tryz.pinned (.plain (OpenSpec.upto scanAllSpec)) scanAllUptoCard
end Rows
end Go.Proofs.YtdjddlebjbngfaaGreatDoor
