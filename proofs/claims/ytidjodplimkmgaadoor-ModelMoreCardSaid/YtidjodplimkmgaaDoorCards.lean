/-
  DERIVED. GIVEN WITH THE SEED: THE CARDS: each row of YtidjodplimkmgaaDoorRows.lean that lists a variable, with what it lists TIED to the program's text (the seventh form; the later family's looks); each row that meets fmt, with fmt's text TOLD by the authors' own Lean function (tested against real Go, not proved from fmt's source: count such statements apart). THE CARD IS WHAT COUNTS. Prove the row's statement (the work); the ties are given (YtidjodplimkmgaaDoorTie.lean); close each card by the builder's one call (the guide's Derived/Test/ToyasCard.lean, 'card_holds'). Laid BY PROGRAM, IN A SANDBOX (cutbox-door.mjs). By AI agents, Wed Nov 11 2026. No macro, syntax, notation, axiom, sorry.
-/
import Derived.Test.YtidjodplimkmgaaDoorRows
import GoSem.ClaimSeven
namespace Go.Proofs.YtidjodplimkmgaaDoor
namespace Rows

/-- THE TIED CARD OF 'magpielaw11.ModelIs'. -/
def modelIsCard : Claim7 := { stood := { row := modelIsRow, standIns := [], harness := (true, "2e79a7b8849deb0e789f5d000081a38719b65029d29974555acf988598749d37"), looks := false }, kinds := [], alts := [], laidByText := true, laidKinds := [.data, .pinned], laidTests := true, laidLooks := .later }
def ModelIsCardSaid : Prop := Claim7.holds Tryd.pinned (.plain (OpenSpec.ofChange modelIsSpec)) modelIsCard

/-- THE TIED CARD OF 'magpielaw11.ModelMore'. -/
def modelMoreCard : Claim7 := { stood := { row := modelMoreRow, standIns := [], harness := (true, "2e79a7b8849deb0e789f5d000081a38719b65029d29974555acf988598749d37"), looks := false }, kinds := [], alts := [], laidByText := true, laidKinds := [.data, .pinned], laidTests := true, laidLooks := .later }
def ModelMoreCardSaid : Prop := Claim7.holds Tryd.pinned (.plain (OpenSpec.ofChange modelMoreSpec)) modelMoreCard

/-- THE SECOND FORM's CARD OF 'magpielaw11.ModelIs'. -/
def modelIsUptoCard : Claim7 := { stood := { row := modelIsUptoRow, standIns := [], harness := (true, "2e79a7b8849deb0e789f5d000081a38719b65029d29974555acf988598749d37"), looks := false }, kinds := [], alts := [], laidByText := true, laidKinds := [.data, .pinned], laidTests := true, laidLooks := .later }
def ModelIsUptoCardSaid : Prop := Claim7.holds Tryd.pinned (.plain (OpenSpec.upto modelIsSpec)) modelIsUptoCard

/-- THE SECOND FORM's CARD OF 'magpielaw11.ModelMore'. -/
def modelMoreUptoCard : Claim7 := { stood := { row := modelMoreUptoRow, standIns := [], harness := (true, "2e79a7b8849deb0e789f5d000081a38719b65029d29974555acf988598749d37"), looks := false }, kinds := [], alts := [], laidByText := true, laidKinds := [.data, .pinned], laidTests := true, laidLooks := .later }
def ModelMoreUptoCardSaid : Prop := Claim7.holds Tryd.pinned (.plain (OpenSpec.upto modelMoreSpec)) modelMoreUptoCard
end Rows
end Go.Proofs.YtidjodplimkmgaaDoor
