/-
  DERIVED. GIVEN WITH THE SEED: THE CARDS: each row of YtgjlbcmejanfaaaDoorRows.lean that lists a variable, with what it lists TIED to the program's text (the seventh form; the later family's looks); each row that meets fmt, with fmt's text TOLD by the authors' own Lean function (tested against real Go, not proved from fmt's source: count such statements apart). THE CARD IS WHAT COUNTS. Prove the row's statement (the work); the ties are given (YtgjlbcmejanfaaaDoorTie.lean); close each card by the builder's one call (the guide's Derived/Test/ToyasCard.lean, 'card_holds'). Laid BY PROGRAM, IN A SANDBOX (cutbox-door.mjs). By AI agents, Wed Nov 11 2026. No macro, syntax, notation, axiom, sorry.
-/
import Derived.Test.YtgjlbcmejanfaaaDoorRows
import GoSem.ClaimSeven
namespace Go.Proofs.YtgjlbcmejanfaaaDoor
namespace Rows

/-- THE TIED CARD OF 'magpielaw03.WordIs'. -/
def wordIsCard : Claim7 := { stood := { row := wordIsRow, standIns := [], harness := (true, "5af6baa0776834f1c963d07b825b39cddad192f53c82e24af420d588c8fc1f0b"), looks := false }, kinds := [], alts := [], laidByText := true, laidKinds := [.data, .pinned], laidTests := true, laidLooks := .later }
def WordIsCardSaid : Prop := Claim7.holds Tryd.pinned (.plain (OpenSpec.ofChange wordIsSpec)) wordIsCard

/-- THE TIED CARD OF 'magpielaw03.WordStands'. -/
def wordStandsCard : Claim7 := { stood := { row := wordStandsRow, standIns := [], harness := (true, "5af6baa0776834f1c963d07b825b39cddad192f53c82e24af420d588c8fc1f0b"), looks := false }, kinds := [], alts := [], laidByText := true, laidKinds := [.data, .pinned], laidTests := true, laidLooks := .later }
def WordStandsCardSaid : Prop := Claim7.holds Tryd.pinned (.plain (OpenSpec.ofChange wordStandsSpec)) wordStandsCard

/-- THE SECOND FORM's CARD OF 'magpielaw03.WordIs'. -/
def wordIsUptoCard : Claim7 := { stood := { row := wordIsUptoRow, standIns := [], harness := (true, "5af6baa0776834f1c963d07b825b39cddad192f53c82e24af420d588c8fc1f0b"), looks := false }, kinds := [], alts := [], laidByText := true, laidKinds := [.data, .pinned], laidTests := true, laidLooks := .later }
def WordIsUptoCardSaid : Prop := Claim7.holds Tryd.pinned (.plain (OpenSpec.upto wordIsSpec)) wordIsUptoCard

/-- THE SECOND FORM's CARD OF 'magpielaw03.WordStands'. -/
def wordStandsUptoCard : Claim7 := { stood := { row := wordStandsUptoRow, standIns := [], harness := (true, "5af6baa0776834f1c963d07b825b39cddad192f53c82e24af420d588c8fc1f0b"), looks := false }, kinds := [], alts := [], laidByText := true, laidKinds := [.data, .pinned], laidTests := true, laidLooks := .later }
def WordStandsUptoCardSaid : Prop := Claim7.holds Tryd.pinned (.plain (OpenSpec.upto wordStandsSpec)) wordStandsUptoCard
end Rows
end Go.Proofs.YtgjlbcmejanfaaaDoor
