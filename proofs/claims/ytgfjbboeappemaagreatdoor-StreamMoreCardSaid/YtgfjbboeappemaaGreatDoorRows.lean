/-
  NARROWER THAN 'FOR EVERY INPUT', by the rows' own cells (each row's printed sentence says how): StreamIs: laid · StreamBatches: laid · StreamOrder: laid · StreamFills: laid · StreamMore: laid.
  DERIVED. THE GIVEN ROWS OF THIS SEAT. 5 by the template 'for every input the law returns true; each argument reads behind the call as it read before'; 0 by the template 'total and deterministic' (their statements: YtgfjbboeappemaaGreatDoorTotals.lean).
  GIVEN WITH THE SEED: the statements are not yours to turn. If you find one false, say at which input.
  Laid BY PROGRAM, IN A SANDBOX (cutbox-rows.mjs): the forced cells as the released guide's own fill.sh prints them over the translation 863cbbd8e6d9e30c… (all of the seat's roots in one cut). By AI agents, Wed Nov 11 2026. No macro, syntax, notation, axiom, sorry.
-/
import Derived.Test.YtgfjbboeappemaaGreatDoorChecked
import GoSem.PinnedTables
import GoSem.Claim
import GoSem.ClaimJoined
import GoSem.ClaimMapViews
import Derived.JoinedTies
import Derived.KernelRfl
namespace Go.Proofs.YtgfjbboeappemaaGreatDoor
/- THE CELL 'sum', in the pinned program and in every row, IS THE sha256 OF THE DUMP (.gsa) THAT YtgfjbboeappemaaGreatDoorProg.lean LOADS. Nothing in Lean hashes anything: it is a label: what it is worth is what the hold of that sum in a sandbox is worth. -/
noncomputable def Tryz.pinned : Pinned := { name := "ytgfjbboeappemaagreatdoor", sum := "863cbbd8e6d9e30c55b277371c17458381c922b0e6fef50668908f14907f48e7", checked := Tryz.checked }
namespace Rows
def none {H : Type} : Left H := { results := [], args := [] }

/- WHAT THE LISTED PACKAGE-LEVEL VARIABLES READ AS WHEN THE CALL BEGINS. Each datum BY PROGRAM (the guide's laid-datum.mjs) off the statement by which the dump's own 'gosem.cut.vars' lays the variable. In a bare row this is a premise. The card (YtgfjbboeappemaaGreatDoorCards.lean) ties it to the program's text. -/
def laid_unicode_utf8_acceptRanges {H : Type} : DataW H := .agg [.agg [.lit (.int .u8 128), .lit (.int .u8 191)], .agg [.lit (.int .u8 160), .lit (.int .u8 191)], .agg [.lit (.int .u8 128), .lit (.int .u8 159)], .agg [.lit (.int .u8 144), .lit (.int .u8 191)], .agg [.lit (.int .u8 128), .lit (.int .u8 143)], .agg [.lit (.int .u8 0), .lit (.int .u8 0)], .agg [.lit (.int .u8 0), .lit (.int .u8 0)], .agg [.lit (.int .u8 0), .lit (.int .u8 0)], .agg [.lit (.int .u8 0), .lit (.int .u8 0)], .agg [.lit (.int .u8 0), .lit (.int .u8 0)], .agg [.lit (.int .u8 0), .lit (.int .u8 0)], .agg [.lit (.int .u8 0), .lit (.int .u8 0)], .agg [.lit (.int .u8 0), .lit (.int .u8 0)], .agg [.lit (.int .u8 0), .lit (.int .u8 0)], .agg [.lit (.int .u8 0), .lit (.int .u8 0)], .agg [.lit (.int .u8 0), .lit (.int .u8 0)]]
/-- One of Go's own tables, pinned by name: the form's constant. -/
def laid_unicode_utf8_first : DataW Unit := Go.Pinned.utf8First

/-- 'magpielaw14.StreamIs': WHATEVER THE INPUT: true; the input reads as it did. -/
def streamIsSpec : ChangeSpec := { name := "streamIs", fn := fun _ => fun
  | [d1, d2, d3, d4, d5] => { results := [.lit (.bool true)], args := [d1, d2, d3, d4, d5] }
  | _ => none }
def streamIsRow : OpenClaim := { program := "ytgfjbboeappemaagreatdoor", sum := "863cbbd8e6d9e30c55b277371c17458381c922b0e6fef50668908f14907f48e7", func := "magpie/magpielaw14.StreamIs", spec := "streamIs", inPlace := ["internal/bytealg.IndexByteString", "internal/bytealg.IndexString", "slices.overlaps[magpie/api.Entry]", "slices.overlaps[[]magpie/api.Entry]"], unfollowed := true, recurses := true, named := ["internal/bytealg.MaxLen", "unicode/utf8.first", "unicode/utf8.acceptRanges"], apart := false, laid := [("unicode/utf8.acceptRanges", laid_unicode_utf8_acceptRanges), ("unicode/utf8.first", laid_unicode_utf8_first)] }
def StreamIsSaid : Prop := streamIsRow.holds Tryz.pinned (OpenSpec.ofChange streamIsSpec)

/-- ITS FALSE NEIGHBOUR: 'it returns false'. Refute it at one input. -/
def streamIsWrong : ChangeSpec := { name := "streamIs", fn := fun _ => fun
  | [d1, d2, d3, d4, d5] => { results := [.lit (.bool false)], args := [d1, d2, d3, d4, d5] }
  | _ => none }
def StreamIsWrongFalsely : Prop := streamIsRow.holds Tryz.pinned (OpenSpec.ofChange streamIsWrong)

/-- 'magpielaw14.StreamBatches': WHATEVER THE INPUT: true; the input reads as it did. -/
def streamBatchesSpec : ChangeSpec := { name := "streamBatches", fn := fun _ => fun
  | [d1, d2, d3, d4] => { results := [.lit (.bool true)], args := [d1, d2, d3, d4] }
  | _ => none }
def streamBatchesRow : OpenClaim := { program := "ytgfjbboeappemaagreatdoor", sum := "863cbbd8e6d9e30c55b277371c17458381c922b0e6fef50668908f14907f48e7", func := "magpie/magpielaw14.StreamBatches", spec := "streamBatches", inPlace := ["internal/bytealg.IndexByteString", "internal/bytealg.IndexString", "slices.overlaps[magpie/api.Entry]", "slices.overlaps[[]magpie/api.Entry]"], unfollowed := true, recurses := true, named := ["internal/bytealg.MaxLen", "unicode/utf8.first", "unicode/utf8.acceptRanges"], apart := false, laid := [("unicode/utf8.acceptRanges", laid_unicode_utf8_acceptRanges), ("unicode/utf8.first", laid_unicode_utf8_first)] }
def StreamBatchesSaid : Prop := streamBatchesRow.holds Tryz.pinned (OpenSpec.ofChange streamBatchesSpec)

/-- ITS FALSE NEIGHBOUR: 'it returns false'. Refute it at one input. -/
def streamBatchesWrong : ChangeSpec := { name := "streamBatches", fn := fun _ => fun
  | [d1, d2, d3, d4] => { results := [.lit (.bool false)], args := [d1, d2, d3, d4] }
  | _ => none }
def StreamBatchesWrongFalsely : Prop := streamBatchesRow.holds Tryz.pinned (OpenSpec.ofChange streamBatchesWrong)

/-- 'magpielaw14.StreamOrder': WHATEVER THE INPUT: true; the input reads as it did. -/
def streamOrderSpec : ChangeSpec := { name := "streamOrder", fn := fun _ => fun
  | [d1, d2, d3, d4] => { results := [.lit (.bool true)], args := [d1, d2, d3, d4] }
  | _ => none }
def streamOrderRow : OpenClaim := { program := "ytgfjbboeappemaagreatdoor", sum := "863cbbd8e6d9e30c55b277371c17458381c922b0e6fef50668908f14907f48e7", func := "magpie/magpielaw14.StreamOrder", spec := "streamOrder", inPlace := ["internal/bytealg.IndexByteString", "internal/bytealg.IndexString", "slices.overlaps[magpie/api.Entry]", "slices.overlaps[[]magpie/api.Entry]"], unfollowed := true, recurses := true, named := ["internal/bytealg.MaxLen", "unicode/utf8.first", "unicode/utf8.acceptRanges"], apart := false, laid := [("unicode/utf8.acceptRanges", laid_unicode_utf8_acceptRanges), ("unicode/utf8.first", laid_unicode_utf8_first)] }
def StreamOrderSaid : Prop := streamOrderRow.holds Tryz.pinned (OpenSpec.ofChange streamOrderSpec)

/-- ITS FALSE NEIGHBOUR: 'it returns false'. Refute it at one input. -/
def streamOrderWrong : ChangeSpec := { name := "streamOrder", fn := fun _ => fun
  | [d1, d2, d3, d4] => { results := [.lit (.bool false)], args := [d1, d2, d3, d4] }
  | _ => none }
def StreamOrderWrongFalsely : Prop := streamOrderRow.holds Tryz.pinned (OpenSpec.ofChange streamOrderWrong)

/-- 'magpielaw14.StreamFills': WHATEVER THE INPUT: true; the input reads as it did. -/
def streamFillsSpec : ChangeSpec := { name := "streamFills", fn := fun _ => fun
  | [d1, d2, d3] => { results := [.lit (.bool true)], args := [d1, d2, d3] }
  | _ => none }
def streamFillsRow : OpenClaim := { program := "ytgfjbboeappemaagreatdoor", sum := "863cbbd8e6d9e30c55b277371c17458381c922b0e6fef50668908f14907f48e7", func := "magpie/magpielaw14.StreamFills", spec := "streamFills", inPlace := ["internal/bytealg.IndexByteString", "internal/bytealg.IndexString", "slices.overlaps[magpie/api.Entry]", "slices.overlaps[[]magpie/api.Entry]"], unfollowed := true, recurses := true, named := ["internal/bytealg.MaxLen", "unicode/utf8.first", "unicode/utf8.acceptRanges"], apart := false, laid := [("unicode/utf8.acceptRanges", laid_unicode_utf8_acceptRanges), ("unicode/utf8.first", laid_unicode_utf8_first)] }
def StreamFillsSaid : Prop := streamFillsRow.holds Tryz.pinned (OpenSpec.ofChange streamFillsSpec)

/-- ITS FALSE NEIGHBOUR: 'it returns false'. Refute it at one input. -/
def streamFillsWrong : ChangeSpec := { name := "streamFills", fn := fun _ => fun
  | [d1, d2, d3] => { results := [.lit (.bool false)], args := [d1, d2, d3] }
  | _ => none }
def StreamFillsWrongFalsely : Prop := streamFillsRow.holds Tryz.pinned (OpenSpec.ofChange streamFillsWrong)

/-- 'magpielaw14.StreamMore': WHATEVER THE INPUT: true; the input reads as it did. -/
def streamMoreSpec : ChangeSpec := { name := "streamMore", fn := fun _ => fun
  | [d1, d2, d3] => { results := [.lit (.bool true)], args := [d1, d2, d3] }
  | _ => none }
def streamMoreRow : OpenClaim := { program := "ytgfjbboeappemaagreatdoor", sum := "863cbbd8e6d9e30c55b277371c17458381c922b0e6fef50668908f14907f48e7", func := "magpie/magpielaw14.StreamMore", spec := "streamMore", inPlace := ["internal/bytealg.IndexByteString", "internal/bytealg.IndexString", "slices.overlaps[magpie/api.Entry]", "slices.overlaps[[]magpie/api.Entry]"], unfollowed := true, recurses := true, named := ["internal/bytealg.MaxLen", "unicode/utf8.first", "unicode/utf8.acceptRanges"], apart := false, laid := [("unicode/utf8.acceptRanges", laid_unicode_utf8_acceptRanges), ("unicode/utf8.first", laid_unicode_utf8_first)] }
def StreamMoreSaid : Prop := streamMoreRow.holds Tryz.pinned (OpenSpec.ofChange streamMoreSpec)

/-- ITS FALSE NEIGHBOUR: 'it returns false'. Refute it at one input. -/
def streamMoreWrong : ChangeSpec := { name := "streamMore", fn := fun _ => fun
  | [d1, d2, d3] => { results := [.lit (.bool false)], args := [d1, d2, d3] }
  | _ => none }
def StreamMoreWrongFalsely : Prop := streamMoreRow.holds Tryz.pinned (OpenSpec.ofChange streamMoreWrong)

/- THE SECOND FORM. 'bulk': how many values and letters a reading holds, each counted each time it is reached (what is shared counts as often as it is met; a slice's spare places count too). A statement '..UptoSaid' is the law's where the arguments, and the package variables that the reading takes, are together of bulk at most 1048576: NARROWER than '..Said'. Prove '..Said' where nothing that the law and all that it calls make is longer than what came in: it says more and counts as full. Else prove '..UptoSaid'. A law counts once. -/
mutual
def uptoBulk {H : Type} : DataW H → Nat
  | .lit (.string bytes) => bytes.length + 1
  | .lit _ => 1
  | .nil => 1
  | .ptr d => uptoBulk d + 1
  | .slice elems spare => uptoBulkAll elems + uptoBulkAll spare + 1
  | .agg parts => uptoBulkAll parts + 1
  | .iface _ d => uptoBulk d + 1
  | .map entries => uptoBulkEntries entries + 1
  | .held _ => 1
def uptoBulkAll {H : Type} : List (DataW H) → Nat
  | [] => 0
  | d :: r => uptoBulk d + uptoBulkAll r
def uptoBulkEntries {H : Type} : List (Lit × DataW H) → Nat
  | [] => 0
  | x :: r => uptoBulkEntry x + uptoBulkEntries r
def uptoBulkEntry {H : Type} : Lit × DataW H → Nat
  | (.string bytes, d) => bytes.length + uptoBulk d + 1
  | (_, d) => uptoBulk d + 1
 end
def uptoSmall : (H : Type) → List (DataW H) → Bool := fun _ ds => decide (uptoBulkAll ds ≤ 1048576)
def OpenSpec.upto (s : _root_.Go.ChangeSpec) : _root_.Go.OpenSpec := { _root_.Go.OpenSpec.ofChange s with cond := some uptoSmall }

/-- 'magpielaw14.StreamIs', WHERE WHAT IT READS IS OF BULK AT MOST 1048576: true; the input reads as it did. -/
def streamIsUptoRow : OpenClaim := { program := "ytgfjbboeappemaagreatdoor", sum := "863cbbd8e6d9e30c55b277371c17458381c922b0e6fef50668908f14907f48e7", func := "magpie/magpielaw14.StreamIs", spec := "streamIs", inPlace := ["internal/bytealg.IndexByteString", "internal/bytealg.IndexString", "slices.overlaps[magpie/api.Entry]", "slices.overlaps[[]magpie/api.Entry]"], unfollowed := true, recurses := true, named := ["internal/bytealg.MaxLen", "unicode/utf8.first", "unicode/utf8.acceptRanges"], apart := false, laid := [("unicode/utf8.acceptRanges", laid_unicode_utf8_acceptRanges), ("unicode/utf8.first", laid_unicode_utf8_first)], narrowed := true }
def StreamIsUptoSaid : Prop := streamIsUptoRow.holds Tryz.pinned (OpenSpec.upto streamIsSpec)

/-- 'magpielaw14.StreamBatches', WHERE WHAT IT READS IS OF BULK AT MOST 1048576: true; the input reads as it did. -/
def streamBatchesUptoRow : OpenClaim := { program := "ytgfjbboeappemaagreatdoor", sum := "863cbbd8e6d9e30c55b277371c17458381c922b0e6fef50668908f14907f48e7", func := "magpie/magpielaw14.StreamBatches", spec := "streamBatches", inPlace := ["internal/bytealg.IndexByteString", "internal/bytealg.IndexString", "slices.overlaps[magpie/api.Entry]", "slices.overlaps[[]magpie/api.Entry]"], unfollowed := true, recurses := true, named := ["internal/bytealg.MaxLen", "unicode/utf8.first", "unicode/utf8.acceptRanges"], apart := false, laid := [("unicode/utf8.acceptRanges", laid_unicode_utf8_acceptRanges), ("unicode/utf8.first", laid_unicode_utf8_first)], narrowed := true }
def StreamBatchesUptoSaid : Prop := streamBatchesUptoRow.holds Tryz.pinned (OpenSpec.upto streamBatchesSpec)

/-- 'magpielaw14.StreamOrder', WHERE WHAT IT READS IS OF BULK AT MOST 1048576: true; the input reads as it did. -/
def streamOrderUptoRow : OpenClaim := { program := "ytgfjbboeappemaagreatdoor", sum := "863cbbd8e6d9e30c55b277371c17458381c922b0e6fef50668908f14907f48e7", func := "magpie/magpielaw14.StreamOrder", spec := "streamOrder", inPlace := ["internal/bytealg.IndexByteString", "internal/bytealg.IndexString", "slices.overlaps[magpie/api.Entry]", "slices.overlaps[[]magpie/api.Entry]"], unfollowed := true, recurses := true, named := ["internal/bytealg.MaxLen", "unicode/utf8.first", "unicode/utf8.acceptRanges"], apart := false, laid := [("unicode/utf8.acceptRanges", laid_unicode_utf8_acceptRanges), ("unicode/utf8.first", laid_unicode_utf8_first)], narrowed := true }
def StreamOrderUptoSaid : Prop := streamOrderUptoRow.holds Tryz.pinned (OpenSpec.upto streamOrderSpec)

/-- 'magpielaw14.StreamFills', WHERE WHAT IT READS IS OF BULK AT MOST 1048576: true; the input reads as it did. -/
def streamFillsUptoRow : OpenClaim := { program := "ytgfjbboeappemaagreatdoor", sum := "863cbbd8e6d9e30c55b277371c17458381c922b0e6fef50668908f14907f48e7", func := "magpie/magpielaw14.StreamFills", spec := "streamFills", inPlace := ["internal/bytealg.IndexByteString", "internal/bytealg.IndexString", "slices.overlaps[magpie/api.Entry]", "slices.overlaps[[]magpie/api.Entry]"], unfollowed := true, recurses := true, named := ["internal/bytealg.MaxLen", "unicode/utf8.first", "unicode/utf8.acceptRanges"], apart := false, laid := [("unicode/utf8.acceptRanges", laid_unicode_utf8_acceptRanges), ("unicode/utf8.first", laid_unicode_utf8_first)], narrowed := true }
def StreamFillsUptoSaid : Prop := streamFillsUptoRow.holds Tryz.pinned (OpenSpec.upto streamFillsSpec)

/-- 'magpielaw14.StreamMore', WHERE WHAT IT READS IS OF BULK AT MOST 1048576: true; the input reads as it did. -/
def streamMoreUptoRow : OpenClaim := { program := "ytgfjbboeappemaagreatdoor", sum := "863cbbd8e6d9e30c55b277371c17458381c922b0e6fef50668908f14907f48e7", func := "magpie/magpielaw14.StreamMore", spec := "streamMore", inPlace := ["internal/bytealg.IndexByteString", "internal/bytealg.IndexString", "slices.overlaps[magpie/api.Entry]", "slices.overlaps[[]magpie/api.Entry]"], unfollowed := true, recurses := true, named := ["internal/bytealg.MaxLen", "unicode/utf8.first", "unicode/utf8.acceptRanges"], apart := false, laid := [("unicode/utf8.acceptRanges", laid_unicode_utf8_acceptRanges), ("unicode/utf8.first", laid_unicode_utf8_first)], narrowed := true }
def StreamMoreUptoSaid : Prop := streamMoreUptoRow.holds Tryz.pinned (OpenSpec.upto streamMoreSpec)

end Rows
end Go.Proofs.YtgfjbboeappemaaGreatDoor
