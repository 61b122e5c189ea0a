/-
  DERIVED. GIVEN WITH THE SEED: THE CARDS: each row of YtmodiemmcdocdaaDoorRows.lean that lists a variable, with what it lists TIED to the program's text (the seventh form; the later family's looks); each row that meets fmt, with fmt's text TOLD by the authors' own Lean function (tested against real Go, not proved from fmt's source: count such statements apart). THE CARD IS WHAT COUNTS. Prove the row's statement (the work); the ties are given (YtmodiemmcdocdaaDoorTie.lean); close each card by the builder's one call (the guide's Derived/Test/ToyasCard.lean, 'card_holds'). Laid BY PROGRAM, IN A SANDBOX (cutbox-door.mjs). By AI agents, Wed Nov 11 2026. No macro, syntax, notation, axiom, sorry.
-/
import Derived.Test.YtmodiemmcdocdaaDoorRows
import GoSem.ClaimSeven
namespace Go.Proofs.YtmodiemmcdocdaaDoor
namespace Rows

/-- THE TIED CARD OF 'magpielaw08.ShowIs'. -/
def showIsCard : Claim7 := { stood := { row := showIsRow, standIns := [], harness := (true, "d265cb0e1ee12cf41df35d76527c046556bfa56028ed0c34f3831fe033a44089"), looks := false }, kinds := [], alts := [], laidByText := true, laidKinds := [.data, .data, .data, .data, .pinned], laidTests := true, laidLooks := .later }
def ShowIsCardSaid : Prop := Claim7.holds Tryd.pinned (.plain (OpenSpec.ofChange showIsSpec)) showIsCard

/-- THE TIED CARD OF 'magpielaw08.ShowUnlike'. -/
def showUnlikeCard : Claim7 := { stood := { row := showUnlikeRow, standIns := [], harness := (true, "d265cb0e1ee12cf41df35d76527c046556bfa56028ed0c34f3831fe033a44089"), looks := false }, kinds := [], alts := [], laidByText := true, laidKinds := [.data, .data, .data, .data, .pinned], laidTests := true, laidLooks := .later }
def ShowUnlikeCardSaid : Prop := Claim7.holds Tryd.pinned (.plain (OpenSpec.ofChange showUnlikeSpec)) showUnlikeCard

/-- THE TIED CARD OF 'magpielaw08.ShowPages'. -/
def showPagesCard : Claim7 := { stood := { row := showPagesRow, standIns := [], harness := (true, "d265cb0e1ee12cf41df35d76527c046556bfa56028ed0c34f3831fe033a44089"), looks := false }, kinds := [], alts := [], laidByText := true, laidKinds := [.data, .data, .data, .data, .pinned], laidTests := true, laidLooks := .later }
def ShowPagesCardSaid : Prop := Claim7.holds Tryd.pinned (.plain (OpenSpec.ofChange showPagesSpec)) showPagesCard

/-- THE SECOND FORM's CARD OF 'magpielaw08.ShowIs'. -/
def showIsUptoCard : Claim7 := { stood := { row := showIsUptoRow, standIns := [], harness := (true, "d265cb0e1ee12cf41df35d76527c046556bfa56028ed0c34f3831fe033a44089"), looks := false }, kinds := [], alts := [], laidByText := true, laidKinds := [.data, .data, .data, .data, .pinned], laidTests := true, laidLooks := .later }
def ShowIsUptoCardSaid : Prop := Claim7.holds Tryd.pinned (.plain (OpenSpec.upto showIsSpec)) showIsUptoCard

/-- THE SECOND FORM's CARD OF 'magpielaw08.ShowUnlike'. -/
def showUnlikeUptoCard : Claim7 := { stood := { row := showUnlikeUptoRow, standIns := [], harness := (true, "d265cb0e1ee12cf41df35d76527c046556bfa56028ed0c34f3831fe033a44089"), looks := false }, kinds := [], alts := [], laidByText := true, laidKinds := [.data, .data, .data, .data, .pinned], laidTests := true, laidLooks := .later }
def ShowUnlikeUptoCardSaid : Prop := Claim7.holds Tryd.pinned (.plain (OpenSpec.upto showUnlikeSpec)) showUnlikeUptoCard

/-- THE SECOND FORM's CARD OF 'magpielaw08.ShowPages'. -/
def showPagesUptoCard : Claim7 := { stood := { row := showPagesUptoRow, standIns := [], harness := (true, "d265cb0e1ee12cf41df35d76527c046556bfa56028ed0c34f3831fe033a44089"), looks := false }, kinds := [], alts := [], laidByText := true, laidKinds := [.data, .data, .data, .data, .pinned], laidTests := true, laidLooks := .later }
def ShowPagesUptoCardSaid : Prop := Claim7.holds Tryd.pinned (.plain (OpenSpec.upto showPagesSpec)) showPagesUptoCard
end Rows
end Go.Proofs.YtmodiemmcdocdaaDoor
