/-
  DERIVED. GIVEN WITH THE SEED: THE CARDS: each row of YtkckgjanfiiieaaDoorRows.lean that lists a variable, with what it lists TIED to the program's text (the seventh form; the later family's looks); each row that meets fmt, with fmt's text TOLD by the authors' own Lean function (tested against real Go, not proved from fmt's source: count such statements apart). THE CARD IS WHAT COUNTS. Prove the row's statement (the work); the ties are given (YtkckgjanfiiieaaDoorTie.lean); close each card by the builder's one call (the guide's Derived/Test/ToyasCard.lean, 'card_holds'). Laid BY PROGRAM, IN A SANDBOX (cutbox-door.mjs). By AI agents, Wed Nov 11 2026. No macro, syntax, notation, axiom, sorry.
-/
import Derived.Test.YtkckgjanfiiieaaDoorRows
import GoSem.ClaimSeven
namespace Go.Proofs.YtkckgjanfiiieaaDoor
namespace Rows

/-- THE TIED CARD OF 'magpielaw10.NormKeeps'. -/
def normKeepsCard : Claim7 := { stood := { row := normKeepsRow, standIns := [], harness := (true, "f99ca00eab897455bec9ccd40410416ce51c982161aa9808b232110a1af33f2d"), looks := false }, kinds := [], alts := [], laidByText := true, laidKinds := [.data, .pinned], laidTests := true, laidLooks := .later }
def NormKeepsCardSaid : Prop := Claim7.holds Tryd.pinned (.plain (OpenSpec.ofChange normKeepsSpec)) normKeepsCard

/-- THE TIED CARD OF 'magpielaw10.NormTwice'. -/
def normTwiceCard : Claim7 := { stood := { row := normTwiceRow, standIns := [], harness := (true, "f99ca00eab897455bec9ccd40410416ce51c982161aa9808b232110a1af33f2d"), looks := false }, kinds := [], alts := [], laidByText := true, laidKinds := [.data, .data, .data, .data, .pinned], laidTests := true, laidLooks := .later }
def NormTwiceCardSaid : Prop := Claim7.holds Tryd.pinned (.plain (OpenSpec.ofChange normTwiceSpec)) normTwiceCard

/-- THE TIED CARD OF 'magpielaw10.NormKeys'. -/
def normKeysCard : Claim7 := { stood := { row := normKeysRow, standIns := [], harness := (true, "f99ca00eab897455bec9ccd40410416ce51c982161aa9808b232110a1af33f2d"), looks := false }, kinds := [], alts := [], laidByText := true, laidKinds := [.data, .data, .data, .data, .pinned], laidTests := true, laidLooks := .later }
def NormKeysCardSaid : Prop := Claim7.holds Tryd.pinned (.plain (OpenSpec.ofChange normKeysSpec)) normKeysCard

/-- THE SECOND FORM's CARD OF 'magpielaw10.NormKeeps'. -/
def normKeepsUptoCard : Claim7 := { stood := { row := normKeepsUptoRow, standIns := [], harness := (true, "f99ca00eab897455bec9ccd40410416ce51c982161aa9808b232110a1af33f2d"), looks := false }, kinds := [], alts := [], laidByText := true, laidKinds := [.data, .pinned], laidTests := true, laidLooks := .later }
def NormKeepsUptoCardSaid : Prop := Claim7.holds Tryd.pinned (.plain (OpenSpec.upto normKeepsSpec)) normKeepsUptoCard

/-- THE SECOND FORM's CARD OF 'magpielaw10.NormTwice'. -/
def normTwiceUptoCard : Claim7 := { stood := { row := normTwiceUptoRow, standIns := [], harness := (true, "f99ca00eab897455bec9ccd40410416ce51c982161aa9808b232110a1af33f2d"), looks := false }, kinds := [], alts := [], laidByText := true, laidKinds := [.data, .data, .data, .data, .pinned], laidTests := true, laidLooks := .later }
def NormTwiceUptoCardSaid : Prop := Claim7.holds Tryd.pinned (.plain (OpenSpec.upto normTwiceSpec)) normTwiceUptoCard

/-- THE SECOND FORM's CARD OF 'magpielaw10.NormKeys'. -/
def normKeysUptoCard : Claim7 := { stood := { row := normKeysUptoRow, standIns := [], harness := (true, "f99ca00eab897455bec9ccd40410416ce51c982161aa9808b232110a1af33f2d"), looks := false }, kinds := [], alts := [], laidByText := true, laidKinds := [.data, .data, .data, .data, .pinned], laidTests := true, laidLooks := .later }
def NormKeysUptoCardSaid : Prop := Claim7.holds Tryd.pinned (.plain (OpenSpec.upto normKeysSpec)) normKeysUptoCard
end Rows
end Go.Proofs.YtkckgjanfiiieaaDoor
