/-
  DERIVED. GIVEN WITH THE SEED: THE CARDS: each row of YtbcpcahfafghkaaDoorRows.lean that lists a variable, with what it lists TIED to the program's text (the seventh form; the later family's looks); each row that meets fmt, with fmt's text TOLD by the authors' own Lean function (tested against real Go, not proved from fmt's source: count such statements apart). THE CARD IS WHAT COUNTS. Prove the row's statement (the work); the ties are given (YtbcpcahfafghkaaDoorTie.lean); close each card by the builder's one call (the guide's Derived/Test/ToyasCard.lean, 'card_holds'). Laid BY PROGRAM, IN A SANDBOX (cutbox-door.mjs). By AI agents, Wed Nov 11 2026. No macro, syntax, notation, axiom, sorry.
-/
import Derived.Test.YtbcpcahfafghkaaDoorRows
import GoSem.ClaimSeven
namespace Go.Proofs.YtbcpcahfafghkaaDoor
namespace Rows

/-- THE TIED CARD OF 'magpielaw09.MatchIs'. -/
def matchIsCard : Claim7 := { stood := { row := matchIsRow, standIns := [], harness := (true, "24873b215a801c008135f0e770995a988fefeb38c210dd83aa8bf437deb9d913"), looks := false }, kinds := [], alts := [], laidByText := true, laidKinds := [.data, .pinned], laidTests := true, laidLooks := .later }
def MatchIsCardSaid : Prop := Claim7.holds Tryd.pinned (.plain (OpenSpec.ofChange matchIsSpec)) matchIsCard

/-- THE TIED CARD OF 'magpielaw09.MatchStands'. -/
def matchStandsCard : Claim7 := { stood := { row := matchStandsRow, standIns := [], harness := (true, "24873b215a801c008135f0e770995a988fefeb38c210dd83aa8bf437deb9d913"), looks := false }, kinds := [], alts := [], laidByText := true, laidKinds := [.data, .pinned], laidTests := true, laidLooks := .later }
def MatchStandsCardSaid : Prop := Claim7.holds Tryd.pinned (.plain (OpenSpec.ofChange matchStandsSpec)) matchStandsCard

/-- THE SECOND FORM's CARD OF 'magpielaw09.MatchIs'. -/
def matchIsUptoCard : Claim7 := { stood := { row := matchIsUptoRow, standIns := [], harness := (true, "24873b215a801c008135f0e770995a988fefeb38c210dd83aa8bf437deb9d913"), looks := false }, kinds := [], alts := [], laidByText := true, laidKinds := [.data, .pinned], laidTests := true, laidLooks := .later }
def MatchIsUptoCardSaid : Prop := Claim7.holds Tryd.pinned (.plain (OpenSpec.upto matchIsSpec)) matchIsUptoCard

/-- THE SECOND FORM's CARD OF 'magpielaw09.MatchStands'. -/
def matchStandsUptoCard : Claim7 := { stood := { row := matchStandsUptoRow, standIns := [], harness := (true, "24873b215a801c008135f0e770995a988fefeb38c210dd83aa8bf437deb9d913"), looks := false }, kinds := [], alts := [], laidByText := true, laidKinds := [.data, .pinned], laidTests := true, laidLooks := .later }
def MatchStandsUptoCardSaid : Prop := Claim7.holds Tryd.pinned (.plain (OpenSpec.upto matchStandsSpec)) matchStandsUptoCard
end Rows
end Go.Proofs.YtbcpcahfafghkaaDoor
