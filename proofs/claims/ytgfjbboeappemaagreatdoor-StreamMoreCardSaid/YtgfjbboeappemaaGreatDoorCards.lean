/-
  DERIVED. GIVEN WITH THE SEED: THE CARDS: each row of YtgfjbboeappemaaGreatDoorRows.lean that lists a variable, with what it lists TIED to the program's text (the seventh form; the later family's looks); each row that meets fmt, with fmt's text TOLD by the authors' own Lean function (tested against real Go, not proved from fmt's source: count such statements apart). THE CARD IS WHAT COUNTS. Prove the row's statement (the work); the ties are given (YtgfjbboeappemaaGreatDoorTie.lean); close each card by the builder's one call (the guide's Derived/Test/ToyasCard.lean, 'card_holds'). Laid BY PROGRAM, IN A SANDBOX (cutbox-door.mjs). By AI agents, Wed Nov 11 2026. No macro, syntax, notation, axiom, sorry.
-/
import Derived.Test.YtgfjbboeappemaaGreatDoorRows
import GoSem.ClaimSeven
namespace Go.Proofs.YtgfjbboeappemaaGreatDoor
namespace Rows

/-- THE TIED CARD OF 'magpielaw14.StreamIs'. -/
def streamIsCard : Claim7 := { stood := { row := streamIsRow, standIns := [], harness := (true, "5559f16300e9a8fb149ba44d52156f7437bc32a227a1eb2e85d5c5d31fcfe427"), looks := true }, kinds := [], alts := [], laidByText := true, laidKinds := [.data, .pinned], laidTests := true, laidLooks := .later }
def StreamIsCardSaid : Prop := Claim7.holds Tryz.pinned (.plain (OpenSpec.ofChange streamIsSpec)) streamIsCard

/-- THE TIED CARD OF 'magpielaw14.StreamBatches'. -/
def streamBatchesCard : Claim7 := { stood := { row := streamBatchesRow, standIns := [], harness := (true, "5559f16300e9a8fb149ba44d52156f7437bc32a227a1eb2e85d5c5d31fcfe427"), looks := true }, kinds := [], alts := [], laidByText := true, laidKinds := [.data, .pinned], laidTests := true, laidLooks := .later }
def StreamBatchesCardSaid : Prop := Claim7.holds Tryz.pinned (.plain (OpenSpec.ofChange streamBatchesSpec)) streamBatchesCard

/-- THE TIED CARD OF 'magpielaw14.StreamOrder'. -/
def streamOrderCard : Claim7 := { stood := { row := streamOrderRow, standIns := [], harness := (true, "5559f16300e9a8fb149ba44d52156f7437bc32a227a1eb2e85d5c5d31fcfe427"), looks := true }, kinds := [], alts := [], laidByText := true, laidKinds := [.data, .pinned], laidTests := true, laidLooks := .later }
def StreamOrderCardSaid : Prop := Claim7.holds Tryz.pinned (.plain (OpenSpec.ofChange streamOrderSpec)) streamOrderCard

/-- THE TIED CARD OF 'magpielaw14.StreamFills'. -/
def streamFillsCard : Claim7 := { stood := { row := streamFillsRow, standIns := [], harness := (true, "5559f16300e9a8fb149ba44d52156f7437bc32a227a1eb2e85d5c5d31fcfe427"), looks := true }, kinds := [], alts := [], laidByText := true, laidKinds := [.data, .pinned], laidTests := true, laidLooks := .later }
def StreamFillsCardSaid : Prop := Claim7.holds Tryz.pinned (.plain (OpenSpec.ofChange streamFillsSpec)) streamFillsCard

/-- THE TIED CARD OF 'magpielaw14.StreamMore'. -/
def streamMoreCard : Claim7 := { stood := { row := streamMoreRow, standIns := [], harness := (true, "5559f16300e9a8fb149ba44d52156f7437bc32a227a1eb2e85d5c5d31fcfe427"), looks := true }, kinds := [], alts := [], laidByText := true, laidKinds := [.data, .pinned], laidTests := true, laidLooks := .later }
def StreamMoreCardSaid : Prop := Claim7.holds Tryz.pinned (.plain (OpenSpec.ofChange streamMoreSpec)) streamMoreCard

/-- THE SECOND FORM's CARD OF 'magpielaw14.StreamIs'. -/
def streamIsUptoCard : Claim7 := { stood := { row := streamIsUptoRow, standIns := [], harness := (true, "5559f16300e9a8fb149ba44d52156f7437bc32a227a1eb2e85d5c5d31fcfe427"), looks := true }, kinds := [], alts := [], laidByText := true, laidKinds := [.data, .pinned], laidTests := true, laidLooks := .later }
def StreamIsUptoCardSaid : Prop := Claim7.holds Tryz.pinned (.plain (OpenSpec.upto streamIsSpec)) streamIsUptoCard

/-- THE SECOND FORM's CARD OF 'magpielaw14.StreamBatches'. -/
def streamBatchesUptoCard : Claim7 := { stood := { row := streamBatchesUptoRow, standIns := [], harness := (true, "5559f16300e9a8fb149ba44d52156f7437bc32a227a1eb2e85d5c5d31fcfe427"), looks := true }, kinds := [], alts := [], laidByText := true, laidKinds := [.data, .pinned], laidTests := true, laidLooks := .later }
def StreamBatchesUptoCardSaid : Prop := Claim7.holds Tryz.pinned (.plain (OpenSpec.upto streamBatchesSpec)) streamBatchesUptoCard

/-- THE SECOND FORM's CARD OF 'magpielaw14.StreamOrder'. -/
def streamOrderUptoCard : Claim7 := { stood := { row := streamOrderUptoRow, standIns := [], harness := (true, "5559f16300e9a8fb149ba44d52156f7437bc32a227a1eb2e85d5c5d31fcfe427"), looks := true }, kinds := [], alts := [], laidByText := true, laidKinds := [.data, .pinned], laidTests := true, laidLooks := .later }
def StreamOrderUptoCardSaid : Prop := Claim7.holds Tryz.pinned (.plain (OpenSpec.upto streamOrderSpec)) streamOrderUptoCard

/-- THE SECOND FORM's CARD OF 'magpielaw14.StreamFills'. -/
def streamFillsUptoCard : Claim7 := { stood := { row := streamFillsUptoRow, standIns := [], harness := (true, "5559f16300e9a8fb149ba44d52156f7437bc32a227a1eb2e85d5c5d31fcfe427"), looks := true }, kinds := [], alts := [], laidByText := true, laidKinds := [.data, .pinned], laidTests := true, laidLooks := .later }
def StreamFillsUptoCardSaid : Prop := Claim7.holds Tryz.pinned (.plain (OpenSpec.upto streamFillsSpec)) streamFillsUptoCard

/-- THE SECOND FORM's CARD OF 'magpielaw14.StreamMore'. -/
def streamMoreUptoCard : Claim7 := { stood := { row := streamMoreUptoRow, standIns := [], harness := (true, "5559f16300e9a8fb149ba44d52156f7437bc32a227a1eb2e85d5c5d31fcfe427"), looks := true }, kinds := [], alts := [], laidByText := true, laidKinds := [.data, .pinned], laidTests := true, laidLooks := .later }
def StreamMoreUptoCardSaid : Prop := Claim7.holds Tryz.pinned (.plain (OpenSpec.upto streamMoreSpec)) streamMoreUptoCard
end Rows
end Go.Proofs.YtgfjbboeappemaaGreatDoor
