/-
  DERIVED. GIVEN WITH THE SEED: THE CARDS: each row of YtfifjcjicipcmaaGreatDoorRows.lean that lists a variable, with what it lists TIED to the program's text (the seventh form; the later family's looks); each row that meets fmt, with fmt's text TOLD by the authors' own Lean function (tested against real Go, not proved from fmt's source: count such statements apart). THE CARD IS WHAT COUNTS. Prove the row's statement (the work); the ties are given (YtfifjcjicipcmaaGreatDoorTie.lean); close each card by the builder's one call (the guide's Derived/Test/ToyasCard.lean, 'card_holds'). Laid BY PROGRAM, IN A SANDBOX (cutbox-door.mjs). By AI agents, Wed Nov 11 2026. No macro, syntax, notation, axiom, sorry.
-/
import Derived.Test.YtfifjcjicipcmaaGreatDoorRows
import GoSem.ClaimSeven
namespace Go.Proofs.YtfifjcjicipcmaaGreatDoor
namespace Rows

/-- THE TIED CARD OF 'magpielaw13.IndexIs'. -/
def indexIsCard : Claim7 := { stood := { row := indexIsRow, standIns := [], harness := (true, "1796affeaf5f6bee0bd12ae8521a1eba7c9ca3611697f6cf7fd96a98998d40f8"), looks := true }, kinds := [], alts := [], laidByText := true, laidKinds := [.data, .pinned], laidTests := true, laidLooks := .later }
def IndexIsCardSaid : Prop := Claim7.holds Tryz.pinned (.plain (OpenSpec.ofChange indexIsSpec)) indexIsCard

/-- THE TIED CARD OF 'magpielaw13.IndexBatches'. -/
def indexBatchesCard : Claim7 := { stood := { row := indexBatchesRow, standIns := [], harness := (true, "1796affeaf5f6bee0bd12ae8521a1eba7c9ca3611697f6cf7fd96a98998d40f8"), looks := true }, kinds := [], alts := [], laidByText := true, laidKinds := [.data, .pinned], laidTests := true, laidLooks := .later }
def IndexBatchesCardSaid : Prop := Claim7.holds Tryz.pinned (.plain (OpenSpec.ofChange indexBatchesSpec)) indexBatchesCard

/-- THE TIED CARD OF 'magpielaw13.IndexOrder'. -/
def indexOrderCard : Claim7 := { stood := { row := indexOrderRow, standIns := [], harness := (true, "1796affeaf5f6bee0bd12ae8521a1eba7c9ca3611697f6cf7fd96a98998d40f8"), looks := true }, kinds := [], alts := [], laidByText := true, laidKinds := [.data, .pinned], laidTests := true, laidLooks := .later }
def IndexOrderCardSaid : Prop := Claim7.holds Tryz.pinned (.plain (OpenSpec.ofChange indexOrderSpec)) indexOrderCard

/-- THE TIED CARD OF 'magpielaw13.IndexRows'. -/
def indexRowsCard : Claim7 := { stood := { row := indexRowsRow, standIns := [], harness := (true, "1796affeaf5f6bee0bd12ae8521a1eba7c9ca3611697f6cf7fd96a98998d40f8"), looks := true }, kinds := [], alts := [], laidByText := true, laidKinds := [.data, .pinned], laidTests := true, laidLooks := .later }
def IndexRowsCardSaid : Prop := Claim7.holds Tryz.pinned (.plain (OpenSpec.ofChange indexRowsSpec)) indexRowsCard

/-- THE SECOND FORM's CARD OF 'magpielaw13.IndexIs'. -/
def indexIsUptoCard : Claim7 := { stood := { row := indexIsUptoRow, standIns := [], harness := (true, "1796affeaf5f6bee0bd12ae8521a1eba7c9ca3611697f6cf7fd96a98998d40f8"), looks := true }, kinds := [], alts := [], laidByText := true, laidKinds := [.data, .pinned], laidTests := true, laidLooks := .later }
def IndexIsUptoCardSaid : Prop := Claim7.holds Tryz.pinned (.plain (OpenSpec.upto indexIsSpec)) indexIsUptoCard

/-- THE SECOND FORM's CARD OF 'magpielaw13.IndexBatches'. -/
def indexBatchesUptoCard : Claim7 := { stood := { row := indexBatchesUptoRow, standIns := [], harness := (true, "1796affeaf5f6bee0bd12ae8521a1eba7c9ca3611697f6cf7fd96a98998d40f8"), looks := true }, kinds := [], alts := [], laidByText := true, laidKinds := [.data, .pinned], laidTests := true, laidLooks := .later }
def IndexBatchesUptoCardSaid : Prop := Claim7.holds Tryz.pinned (.plain (OpenSpec.upto indexBatchesSpec)) indexBatchesUptoCard

/-- THE SECOND FORM's CARD OF 'magpielaw13.IndexOrder'. -/
def indexOrderUptoCard : Claim7 := { stood := { row := indexOrderUptoRow, standIns := [], harness := (true, "1796affeaf5f6bee0bd12ae8521a1eba7c9ca3611697f6cf7fd96a98998d40f8"), looks := true }, kinds := [], alts := [], laidByText := true, laidKinds := [.data, .pinned], laidTests := true, laidLooks := .later }
def IndexOrderUptoCardSaid : Prop := Claim7.holds Tryz.pinned (.plain (OpenSpec.upto indexOrderSpec)) indexOrderUptoCard

/-- THE SECOND FORM's CARD OF 'magpielaw13.IndexRows'. -/
def indexRowsUptoCard : Claim7 := { stood := { row := indexRowsUptoRow, standIns := [], harness := (true, "1796affeaf5f6bee0bd12ae8521a1eba7c9ca3611697f6cf7fd96a98998d40f8"), looks := true }, kinds := [], alts := [], laidByText := true, laidKinds := [.data, .pinned], laidTests := true, laidLooks := .later }
def IndexRowsUptoCardSaid : Prop := Claim7.holds Tryz.pinned (.plain (OpenSpec.upto indexRowsSpec)) indexRowsUptoCard
end Rows
end Go.Proofs.YtfifjcjicipcmaaGreatDoor
