/-
  DERIVED. GIVEN WITH THE SEED: THE CARDS: each row of YtaghogfkkmphoaaDoorRows.lean that lists a variable, with what it lists TIED to the program's text (the seventh form; the later family's looks); each row that meets fmt, with fmt's text TOLD by the authors' own Lean function (tested against real Go, not proved from fmt's source: count such statements apart). THE CARD IS WHAT COUNTS. Prove the row's statement (the work); the ties are given (YtaghogfkkmphoaaDoorTie.lean); close each card by the builder's one call (the guide's Derived/Test/ToyasCard.lean, 'card_holds'). Laid BY PROGRAM, IN A SANDBOX (cutbox-door.mjs). By AI agents, Wed Nov 11 2026. No macro, syntax, notation, axiom, sorry.
-/
import Derived.Test.YtaghogfkkmphoaaDoorRows
import GoSem.ClaimSeven
namespace Go.Proofs.YtaghogfkkmphoaaDoor
namespace Rows

/-- THE TIED CARD OF 'magpielaw12.DialectIs'. -/
def dialectIsCard : Claim7 := { stood := { row := dialectIsRow, standIns := [], harness := (true, "d9a9483afe954f4fa37d1349e232d52b059a4b1706898b53caee4ca8b7fa157d"), looks := true }, kinds := [], alts := [], laidByText := true, laidKinds := [.data, .pinned], laidTests := true, laidLooks := .later }
def DialectIsCardSaid : Prop := Claim7.holds Tryd.pinned (.plain (OpenSpec.ofChange dialectIsSpec)) dialectIsCard

/-- THE TIED CARD OF 'magpielaw12.DialectReads'. -/
def dialectReadsCard : Claim7 := { stood := { row := dialectReadsRow, standIns := [], harness := (true, "d9a9483afe954f4fa37d1349e232d52b059a4b1706898b53caee4ca8b7fa157d"), looks := true }, kinds := [], alts := [], laidByText := true, laidKinds := [.data, .pinned], laidTests := true, laidLooks := .later }
def DialectReadsCardSaid : Prop := Claim7.holds Tryd.pinned (.plain (OpenSpec.ofChange dialectReadsSpec)) dialectReadsCard

/-- THE TIED CARD OF 'magpielaw12.DialectBack'. -/
def dialectBackCard : Claim7 := { stood := { row := dialectBackRow, standIns := [], harness := (true, "d9a9483afe954f4fa37d1349e232d52b059a4b1706898b53caee4ca8b7fa157d"), looks := true }, kinds := [], alts := [], laidByText := true, laidKinds := [.data, .pinned], laidTests := true, laidLooks := .later }
def DialectBackCardSaid : Prop := Claim7.holds Tryd.pinned (.plain (OpenSpec.ofChange dialectBackSpec)) dialectBackCard

/-- THE TIED CARD OF 'magpielaw12.DialectOnce'. -/
def dialectOnceCard : Claim7 := { stood := { row := dialectOnceRow, standIns := [], harness := (true, "d9a9483afe954f4fa37d1349e232d52b059a4b1706898b53caee4ca8b7fa157d"), looks := true }, kinds := [], alts := [], laidByText := true, laidKinds := [.data, .pinned], laidTests := true, laidLooks := .later }
def DialectOnceCardSaid : Prop := Claim7.holds Tryd.pinned (.plain (OpenSpec.ofChange dialectOnceSpec)) dialectOnceCard

/-- THE SECOND FORM's CARD OF 'magpielaw12.DialectIs'. -/
def dialectIsUptoCard : Claim7 := { stood := { row := dialectIsUptoRow, standIns := [], harness := (true, "d9a9483afe954f4fa37d1349e232d52b059a4b1706898b53caee4ca8b7fa157d"), looks := true }, kinds := [], alts := [], laidByText := true, laidKinds := [.data, .pinned], laidTests := true, laidLooks := .later }
def DialectIsUptoCardSaid : Prop := Claim7.holds Tryd.pinned (.plain (OpenSpec.upto dialectIsSpec)) dialectIsUptoCard

/-- THE SECOND FORM's CARD OF 'magpielaw12.DialectReads'. -/
def dialectReadsUptoCard : Claim7 := { stood := { row := dialectReadsUptoRow, standIns := [], harness := (true, "d9a9483afe954f4fa37d1349e232d52b059a4b1706898b53caee4ca8b7fa157d"), looks := true }, kinds := [], alts := [], laidByText := true, laidKinds := [.data, .pinned], laidTests := true, laidLooks := .later }
def DialectReadsUptoCardSaid : Prop := Claim7.holds Tryd.pinned (.plain (OpenSpec.upto dialectReadsSpec)) dialectReadsUptoCard

/-- THE SECOND FORM's CARD OF 'magpielaw12.DialectBack'. -/
def dialectBackUptoCard : Claim7 := { stood := { row := dialectBackUptoRow, standIns := [], harness := (true, "d9a9483afe954f4fa37d1349e232d52b059a4b1706898b53caee4ca8b7fa157d"), looks := true }, kinds := [], alts := [], laidByText := true, laidKinds := [.data, .pinned], laidTests := true, laidLooks := .later }
def DialectBackUptoCardSaid : Prop := Claim7.holds Tryd.pinned (.plain (OpenSpec.upto dialectBackSpec)) dialectBackUptoCard

/-- THE SECOND FORM's CARD OF 'magpielaw12.DialectOnce'. -/
def dialectOnceUptoCard : Claim7 := { stood := { row := dialectOnceUptoRow, standIns := [], harness := (true, "d9a9483afe954f4fa37d1349e232d52b059a4b1706898b53caee4ca8b7fa157d"), looks := true }, kinds := [], alts := [], laidByText := true, laidKinds := [.data, .pinned], laidTests := true, laidLooks := .later }
def DialectOnceUptoCardSaid : Prop := Claim7.holds Tryd.pinned (.plain (OpenSpec.upto dialectOnceSpec)) dialectOnceUptoCard
end Rows
end Go.Proofs.YtaghogfkkmphoaaDoor
