/-
  NARROWER THAN 'FOR EVERY INPUT', by the rows' own cells (each row's printed sentence says how): DialectIs: laid · DialectReads: laid · DialectBack: laid · DialectOnce: laid.
  DERIVED. THE GIVEN ROWS OF THIS SEAT. 4 by the template 'for every input the law returns true; each argument reads behind the call as it read before'; 0 by the template 'total and deterministic' (their statements: YtaghogfkkmphoaaDoorTotals.lean).
  GIVEN WITH THE SEED: the statements are not yours to turn. If you find one false, say at which input.
  Laid BY PROGRAM, IN A SANDBOX (cutbox-rows.mjs): the forced cells as the released guide's own fill.sh prints them over the translation c7d6b49aada8b867… (all of the seat's roots in one cut). By AI agents, Wed Nov 11 2026. No macro, syntax, notation, axiom, sorry.
-/
import Derived.Test.YtaghogfkkmphoaaDoorChecked
import GoSem.PinnedTables
import GoSem.Claim
import GoSem.ClaimJoined
import GoSem.ClaimMapViews
import Derived.JoinedTies
import Derived.KernelRfl
namespace Go.Proofs.YtaghogfkkmphoaaDoor
/- THE CELL 'sum', in the pinned program and in every row, IS THE sha256 OF THE DUMP (.gsa) THAT YtaghogfkkmphoaaDoorProg.lean LOADS. Nothing in Lean hashes anything: it is a label: what it is worth is what the hold of that sum in a sandbox is worth. -/
noncomputable def Tryd.pinned : Pinned := { name := "ytaghogfkkmphoaadoor", sum := "c7d6b49aada8b8672d7bf6359eaa5cadacfe15f4bb3828f6fdd61181a802274b", checked := Tryd.checked }
namespace Rows
def none {H : Type} : Left H := { results := [], args := [] }

/- WHAT THE LISTED PACKAGE-LEVEL VARIABLES READ AS WHEN THE CALL BEGINS. Each datum BY PROGRAM (the guide's laid-datum.mjs) off the statement by which the dump's own 'gosem.cut.vars' lays the variable. In a bare row this is a premise. The card (YtaghogfkkmphoaaDoorCards.lean) ties it to the program's text. -/
def laid_unicode_utf8_acceptRanges {H : Type} : DataW H := .agg [.agg [.lit (.int .u8 128), .lit (.int .u8 191)], .agg [.lit (.int .u8 160), .lit (.int .u8 191)], .agg [.lit (.int .u8 128), .lit (.int .u8 159)], .agg [.lit (.int .u8 144), .lit (.int .u8 191)], .agg [.lit (.int .u8 128), .lit (.int .u8 143)], .agg [.lit (.int .u8 0), .lit (.int .u8 0)], .agg [.lit (.int .u8 0), .lit (.int .u8 0)], .agg [.lit (.int .u8 0), .lit (.int .u8 0)], .agg [.lit (.int .u8 0), .lit (.int .u8 0)], .agg [.lit (.int .u8 0), .lit (.int .u8 0)], .agg [.lit (.int .u8 0), .lit (.int .u8 0)], .agg [.lit (.int .u8 0), .lit (.int .u8 0)], .agg [.lit (.int .u8 0), .lit (.int .u8 0)], .agg [.lit (.int .u8 0), .lit (.int .u8 0)], .agg [.lit (.int .u8 0), .lit (.int .u8 0)], .agg [.lit (.int .u8 0), .lit (.int .u8 0)]]
/-- One of Go's own tables, pinned by name: the form's constant. -/
def laid_unicode_utf8_first : DataW Unit := Go.Pinned.utf8First

/-- 'magpielaw12.DialectIs': WHATEVER THE INPUT: true; the input reads as it did. -/
def dialectIsSpec : ChangeSpec := { name := "dialectIs", fn := fun _ => fun
  | [d1, d2, d3] => { results := [.lit (.bool true)], args := [d1, d2, d3] }
  | _ => none }
def dialectIsRow : OpenClaim := { program := "ytaghogfkkmphoaadoor", sum := "c7d6b49aada8b8672d7bf6359eaa5cadacfe15f4bb3828f6fdd61181a802274b", func := "magpie/magpielaw12.DialectIs", spec := "dialectIs", inPlace := ["internal/bytealg.IndexByteString", "internal/bytealg.IndexString"], unfollowed := true, recurses := true, named := ["unicode/utf8.first", "unicode/utf8.acceptRanges", "internal/bytealg.MaxLen"], apart := false, laid := [("unicode/utf8.acceptRanges", laid_unicode_utf8_acceptRanges), ("unicode/utf8.first", laid_unicode_utf8_first)] }
def DialectIsSaid : Prop := dialectIsRow.holds Tryd.pinned (OpenSpec.ofChange dialectIsSpec)

/-- ITS FALSE NEIGHBOUR: 'it returns false'. Refute it at one input. -/
def dialectIsWrong : ChangeSpec := { name := "dialectIs", fn := fun _ => fun
  | [d1, d2, d3] => { results := [.lit (.bool false)], args := [d1, d2, d3] }
  | _ => none }
def DialectIsWrongFalsely : Prop := dialectIsRow.holds Tryd.pinned (OpenSpec.ofChange dialectIsWrong)

/-- 'magpielaw12.DialectReads': WHATEVER THE INPUT: true; the input reads as it did. -/
def dialectReadsSpec : ChangeSpec := { name := "dialectReads", fn := fun _ => fun
  | [d] => { results := [.lit (.bool true)], args := [d] }
  | _ => none }
def dialectReadsRow : OpenClaim := { program := "ytaghogfkkmphoaadoor", sum := "c7d6b49aada8b8672d7bf6359eaa5cadacfe15f4bb3828f6fdd61181a802274b", func := "magpie/magpielaw12.DialectReads", spec := "dialectReads", inPlace := ["internal/bytealg.IndexByteString", "internal/bytealg.IndexString"], unfollowed := true, recurses := true, named := ["unicode/utf8.first", "unicode/utf8.acceptRanges", "internal/bytealg.MaxLen"], apart := false, laid := [("unicode/utf8.acceptRanges", laid_unicode_utf8_acceptRanges), ("unicode/utf8.first", laid_unicode_utf8_first)] }
def DialectReadsSaid : Prop := dialectReadsRow.holds Tryd.pinned (OpenSpec.ofChange dialectReadsSpec)

/-- ITS FALSE NEIGHBOUR: 'it returns false'. Refute it at one input. -/
def dialectReadsWrong : ChangeSpec := { name := "dialectReads", fn := fun _ => fun
  | [d] => { results := [.lit (.bool false)], args := [d] }
  | _ => none }
def DialectReadsWrongFalsely : Prop := dialectReadsRow.holds Tryd.pinned (OpenSpec.ofChange dialectReadsWrong)

/-- 'magpielaw12.DialectBack': WHATEVER THE INPUT: true; the input reads as it did. -/
def dialectBackSpec : ChangeSpec := { name := "dialectBack", fn := fun _ => fun
  | [d] => { results := [.lit (.bool true)], args := [d] }
  | _ => none }
def dialectBackRow : OpenClaim := { program := "ytaghogfkkmphoaadoor", sum := "c7d6b49aada8b8672d7bf6359eaa5cadacfe15f4bb3828f6fdd61181a802274b", func := "magpie/magpielaw12.DialectBack", spec := "dialectBack", inPlace := ["internal/bytealg.IndexByteString", "internal/bytealg.IndexString"], unfollowed := true, recurses := true, named := ["unicode/utf8.first", "unicode/utf8.acceptRanges", "internal/bytealg.MaxLen"], apart := false, laid := [("unicode/utf8.acceptRanges", laid_unicode_utf8_acceptRanges), ("unicode/utf8.first", laid_unicode_utf8_first)] }
def DialectBackSaid : Prop := dialectBackRow.holds Tryd.pinned (OpenSpec.ofChange dialectBackSpec)

/-- ITS FALSE NEIGHBOUR: 'it returns false'. Refute it at one input. -/
def dialectBackWrong : ChangeSpec := { name := "dialectBack", fn := fun _ => fun
  | [d] => { results := [.lit (.bool false)], args := [d] }
  | _ => none }
def DialectBackWrongFalsely : Prop := dialectBackRow.holds Tryd.pinned (OpenSpec.ofChange dialectBackWrong)

/-- 'magpielaw12.DialectOnce': WHATEVER THE INPUT: true; the input reads as it did. -/
def dialectOnceSpec : ChangeSpec := { name := "dialectOnce", fn := fun _ => fun
  | [d1, d2] => { results := [.lit (.bool true)], args := [d1, d2] }
  | _ => none }
def dialectOnceRow : OpenClaim := { program := "ytaghogfkkmphoaadoor", sum := "c7d6b49aada8b8672d7bf6359eaa5cadacfe15f4bb3828f6fdd61181a802274b", func := "magpie/magpielaw12.DialectOnce", spec := "dialectOnce", unfollowed := true, recurses := true, named := ["unicode/utf8.first", "unicode/utf8.acceptRanges"], apart := false, laid := [("unicode/utf8.acceptRanges", laid_unicode_utf8_acceptRanges), ("unicode/utf8.first", laid_unicode_utf8_first)] }
def DialectOnceSaid : Prop := dialectOnceRow.holds Tryd.pinned (OpenSpec.ofChange dialectOnceSpec)

/-- ITS FALSE NEIGHBOUR: 'it returns false'. Refute it at one input. -/
def dialectOnceWrong : ChangeSpec := { name := "dialectOnce", fn := fun _ => fun
  | [d1, d2] => { results := [.lit (.bool false)], args := [d1, d2] }
  | _ => none }
def DialectOnceWrongFalsely : Prop := dialectOnceRow.holds Tryd.pinned (OpenSpec.ofChange dialectOnceWrong)

/- THE SECOND FORM. 'bulk': how many values and letters a reading holds, each counted each time it is reached (what is shared counts as often as it is met; a slice's spare places count too). A statement '..UptoSaid' is the law's where the arguments, and the package variables that the reading takes, are together of bulk at most 1048576: NARROWER than '..Said'. Prove '..Said' where nothing that the law and all that it calls make is longer than what came in: it says more and counts as full. Else prove '..UptoSaid'. A law counts once. -/
mutual
def uptoBulk {H : Type} : DataW H → Nat
  | .lit (.string bytes) => bytes.length + 1
  | .lit _ => 1
  | .nil => 1
  | .ptr d => uptoBulk d + 1
  | .slice elems spare => uptoBulkAll elems + uptoBulkAll spare + 1
  | .agg parts => uptoBulkAll parts + 1
  | .iface _ d => uptoBulk d + 1
  | .map entries => uptoBulkEntries entries + 1
  | .held _ => 1
def uptoBulkAll {H : Type} : List (DataW H) → Nat
  | [] => 0
  | d :: r => uptoBulk d + uptoBulkAll r
def uptoBulkEntries {H : Type} : List (Lit × DataW H) → Nat
  | [] => 0
  | x :: r => uptoBulkEntry x + uptoBulkEntries r
def uptoBulkEntry {H : Type} : Lit × DataW H → Nat
  | (.string bytes, d) => bytes.length + uptoBulk d + 1
  | (_, d) => uptoBulk d + 1
 end
def uptoSmall : (H : Type) → List (DataW H) → Bool := fun _ ds => decide (uptoBulkAll ds ≤ 1048576)
def OpenSpec.upto (s : _root_.Go.ChangeSpec) : _root_.Go.OpenSpec := { _root_.Go.OpenSpec.ofChange s with cond := some uptoSmall }

/-- 'magpielaw12.DialectIs', WHERE WHAT IT READS IS OF BULK AT MOST 1048576: true; the input reads as it did. -/
def dialectIsUptoRow : OpenClaim := { program := "ytaghogfkkmphoaadoor", sum := "c7d6b49aada8b8672d7bf6359eaa5cadacfe15f4bb3828f6fdd61181a802274b", func := "magpie/magpielaw12.DialectIs", spec := "dialectIs", inPlace := ["internal/bytealg.IndexByteString", "internal/bytealg.IndexString"], unfollowed := true, recurses := true, named := ["unicode/utf8.first", "unicode/utf8.acceptRanges", "internal/bytealg.MaxLen"], apart := false, laid := [("unicode/utf8.acceptRanges", laid_unicode_utf8_acceptRanges), ("unicode/utf8.first", laid_unicode_utf8_first)], narrowed := true }
def DialectIsUptoSaid : Prop := dialectIsUptoRow.holds Tryd.pinned (OpenSpec.upto dialectIsSpec)

/-- 'magpielaw12.DialectReads', WHERE WHAT IT READS IS OF BULK AT MOST 1048576: true; the input reads as it did. -/
def dialectReadsUptoRow : OpenClaim := { program := "ytaghogfkkmphoaadoor", sum := "c7d6b49aada8b8672d7bf6359eaa5cadacfe15f4bb3828f6fdd61181a802274b", func := "magpie/magpielaw12.DialectReads", spec := "dialectReads", inPlace := ["internal/bytealg.IndexByteString", "internal/bytealg.IndexString"], unfollowed := true, recurses := true, named := ["unicode/utf8.first", "unicode/utf8.acceptRanges", "internal/bytealg.MaxLen"], apart := false, laid := [("unicode/utf8.acceptRanges", laid_unicode_utf8_acceptRanges), ("unicode/utf8.first", laid_unicode_utf8_first)], narrowed := true }
def DialectReadsUptoSaid : Prop := dialectReadsUptoRow.holds Tryd.pinned (OpenSpec.upto dialectReadsSpec)

/-- 'magpielaw12.DialectBack', WHERE WHAT IT READS IS OF BULK AT MOST 1048576: true; the input reads as it did. -/
def dialectBackUptoRow : OpenClaim := { program := "ytaghogfkkmphoaadoor", sum := "c7d6b49aada8b8672d7bf6359eaa5cadacfe15f4bb3828f6fdd61181a802274b", func := "magpie/magpielaw12.DialectBack", spec := "dialectBack", inPlace := ["internal/bytealg.IndexByteString", "internal/bytealg.IndexString"], unfollowed := true, recurses := true, named := ["unicode/utf8.first", "unicode/utf8.acceptRanges", "internal/bytealg.MaxLen"], apart := false, laid := [("unicode/utf8.acceptRanges", laid_unicode_utf8_acceptRanges), ("unicode/utf8.first", laid_unicode_utf8_first)], narrowed := true }
def DialectBackUptoSaid : Prop := dialectBackUptoRow.holds Tryd.pinned (OpenSpec.upto dialectBackSpec)

/-- 'magpielaw12.DialectOnce', WHERE WHAT IT READS IS OF BULK AT MOST 1048576: true; the input reads as it did. -/
def dialectOnceUptoRow : OpenClaim := { program := "ytaghogfkkmphoaadoor", sum := "c7d6b49aada8b8672d7bf6359eaa5cadacfe15f4bb3828f6fdd61181a802274b", func := "magpie/magpielaw12.DialectOnce", spec := "dialectOnce", unfollowed := true, recurses := true, named := ["unicode/utf8.first", "unicode/utf8.acceptRanges"], apart := false, laid := [("unicode/utf8.acceptRanges", laid_unicode_utf8_acceptRanges), ("unicode/utf8.first", laid_unicode_utf8_first)], narrowed := true }
def DialectOnceUptoSaid : Prop := dialectOnceUptoRow.holds Tryd.pinned (OpenSpec.upto dialectOnceSpec)

end Rows
end Go.Proofs.YtaghogfkkmphoaaDoor
