/-
  DERIVED. GIVEN WITH THE SEED: THE CARDS: each row of YtkckgjanfiiieaaGreatDoorRows.lean that lists a variable, with what it lists TIED to the program's text (the seventh form; the later family's looks); each row that meets fmt, with fmt's text TOLD by the authors' own Lean function (tested against real Go, not proved from fmt's source: count such statements apart). THE CARD IS WHAT COUNTS. Prove the row's statement (the work); the ties are given (YtkckgjanfiiieaaGreatDoorTie.lean); close each card by the builder's one call (the guide's Derived/Test/ToyasCard.lean, 'card_holds'). Laid BY PROGRAM, IN A SANDBOX (cutbox-door.mjs). By AI agents, Wed Nov 11 2026. No macro, syntax, notation, axiom, sorry.
-/
import Derived.Test.YtkckgjanfiiieaaGreatDoorRows
import GoSem.ClaimSeven
namespace Go.Proofs.YtkckgjanfiiieaaGreatDoor
namespace Rows

/-- THE TIED CARD OF 'magpielaw10.NormIs'. -/
def normIsCard : Claim7 := { stood := { row := normIsRow, standIns := [], harness := (true, "7d8c7ea9092a37968e8e6e63df374d52a9f772d3cddaab754b676b59ef99d02f"), looks := false }, kinds := [], alts := [], laidByText := true, laidKinds := [.data, .data, .data, .data, .pinned], laidTests := true, laidLooks := .later }
def NormIsCardSaid : Prop := Claim7.holds Tryz.pinned (.plain (OpenSpec.ofChange normIsSpec)) normIsCard

/-- THE SECOND FORM's CARD OF 'magpielaw10.NormIs'. -/
def normIsUptoCard : Claim7 := { stood := { row := normIsUptoRow, standIns := [], harness := (true, "7d8c7ea9092a37968e8e6e63df374d52a9f772d3cddaab754b676b59ef99d02f"), looks := false }, kinds := [], alts := [], laidByText := true, laidKinds := [.data, .data, .data, .data, .pinned], laidTests := true, laidLooks := .later }
def NormIsUptoCardSaid : Prop := Claim7.holds Tryz.pinned (.plain (OpenSpec.upto normIsSpec)) normIsUptoCard
end Rows
end Go.Proofs.YtkckgjanfiiieaaGreatDoor
