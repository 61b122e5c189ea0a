/-
  No cell of these rows narrows 'for every input' (looked for: loops, veiled, ifaces, maps, wideKeys, modest, calm, conditions, laid).
  DERIVED. THE GIVEN ROWS OF THIS SEAT. 3 by the template 'for every input the law returns true; each argument reads behind the call as it read before'; 0 by the template 'total and deterministic' (their statements: YtoobjjpheegmdaaGreatTotals.lean).
  GIVEN WITH THE SEED: the statements are not yours to turn. If you find one false, say at which input.
  Laid BY PROGRAM, IN A SANDBOX (cutbox-rows.mjs): the forced cells as the released guide's own fill.sh prints them over the translation 0558f06cde9b3e89… (all of the seat's roots in one cut). By AI agents, Wed Nov 11 2026. No macro, syntax, notation, axiom, sorry.
-/
import Derived.Test.YtoobjjpheegmdaaGreatChecked
import GoSem.Claim
import GoSem.ClaimJoined
import GoSem.ClaimMapViews
import Derived.JoinedTies
import Derived.KernelRfl
namespace Go.Proofs.YtoobjjpheegmdaaGreat
/- THE CELL 'sum', in the pinned program and in every row, IS THE sha256 OF THE DUMP (.gsa) THAT YtoobjjpheegmdaaGreatProg.lean LOADS. Nothing in Lean hashes anything: it is a label: what it is worth is what the hold of that sum in a sandbox is worth. -/
noncomputable def Tryz.pinned : Pinned := { name := "ytoobjjpheegmdaagreat", sum := "0558f06cde9b3e891b39ffa3976f75e11a25f37d74d4489279deb55668288a30", checked := Tryz.checked }
namespace Rows
def none {H : Type} : Left H := { results := [], args := [] }

/-- 'magpielaw16.GroupAlike': WHATEVER THE INPUT: true; the input reads as it did. -/
def groupAlikeSpec : ChangeSpec := { name := "groupAlike", fn := fun _ => fun
  | [d1, d2] => { results := [.lit (.bool true)], args := [d1, d2] }
  | _ => none }
def groupAlikeRow : OpenClaim := { program := "ytoobjjpheegmdaagreat", sum := "0558f06cde9b3e891b39ffa3976f75e11a25f37d74d4489279deb55668288a30", func := "magpie/magpielaw16.GroupAlike", spec := "groupAlike", inPlace := ["internal/bytealg.IndexByteString", "internal/bytealg.IndexString"], unfollowed := true, recurses := true, named := ["internal/bytealg.MaxLen"], apart := false }
def GroupAlikeSaid : Prop := groupAlikeRow.holds Tryz.pinned (OpenSpec.ofChange groupAlikeSpec)

/-- ITS FALSE NEIGHBOUR: 'it returns false'. Refute it at one input. -/
def groupAlikeWrong : ChangeSpec := { name := "groupAlike", fn := fun _ => fun
  | [d1, d2] => { results := [.lit (.bool false)], args := [d1, d2] }
  | _ => none }
def GroupAlikeWrongFalsely : Prop := groupAlikeRow.holds Tryz.pinned (OpenSpec.ofChange groupAlikeWrong)

/-- 'magpielaw16.GroupMakes': WHATEVER THE INPUT: true; the input reads as it did. -/
def groupMakesSpec : ChangeSpec := { name := "groupMakes", fn := fun _ => fun
  | [d1, d2] => { results := [.lit (.bool true)], args := [d1, d2] }
  | _ => none }
def groupMakesRow : OpenClaim := { program := "ytoobjjpheegmdaagreat", sum := "0558f06cde9b3e891b39ffa3976f75e11a25f37d74d4489279deb55668288a30", func := "magpie/magpielaw16.GroupMakes", spec := "groupMakes", inPlace := ["internal/bytealg.IndexByteString", "internal/bytealg.IndexString"], unfollowed := true, recurses := true, named := ["internal/bytealg.MaxLen"], apart := false }
def GroupMakesSaid : Prop := groupMakesRow.holds Tryz.pinned (OpenSpec.ofChange groupMakesSpec)

/-- ITS FALSE NEIGHBOUR: 'it returns false'. Refute it at one input. -/
def groupMakesWrong : ChangeSpec := { name := "groupMakes", fn := fun _ => fun
  | [d1, d2] => { results := [.lit (.bool false)], args := [d1, d2] }
  | _ => none }
def GroupMakesWrongFalsely : Prop := groupMakesRow.holds Tryz.pinned (OpenSpec.ofChange groupMakesWrong)

/-- 'magpielaw16.GroupEpochs': WHATEVER THE INPUT: true; the input reads as it did. -/
def groupEpochsSpec : ChangeSpec := { name := "groupEpochs", fn := fun _ => fun
  | [d1, d2, d3] => { results := [.lit (.bool true)], args := [d1, d2, d3] }
  | _ => none }
def groupEpochsRow : OpenClaim := { program := "ytoobjjpheegmdaagreat", sum := "0558f06cde9b3e891b39ffa3976f75e11a25f37d74d4489279deb55668288a30", func := "magpie/magpielaw16.GroupEpochs", spec := "groupEpochs", inPlace := ["internal/bytealg.IndexByteString", "internal/bytealg.IndexString"], unfollowed := true, recurses := true, named := ["internal/bytealg.MaxLen"], apart := false }
def GroupEpochsSaid : Prop := groupEpochsRow.holds Tryz.pinned (OpenSpec.ofChange groupEpochsSpec)

/-- ITS FALSE NEIGHBOUR: 'it returns false'. Refute it at one input. -/
def groupEpochsWrong : ChangeSpec := { name := "groupEpochs", fn := fun _ => fun
  | [d1, d2, d3] => { results := [.lit (.bool false)], args := [d1, d2, d3] }
  | _ => none }
def GroupEpochsWrongFalsely : Prop := groupEpochsRow.holds Tryz.pinned (OpenSpec.ofChange groupEpochsWrong)

/- THE SECOND FORM. 'bulk': how many values and letters a reading holds, each counted each time it is reached (what is shared counts as often as it is met; a slice's spare places count too). A statement '..UptoSaid' is the law's where the arguments, and the package variables that the reading takes, are together of bulk at most 1048576: NARROWER than '..Said'. Prove '..Said' where nothing that the law and all that it calls make is longer than what came in: it says more and counts as full. Else prove '..UptoSaid'. A law counts once. -/
mutual
def uptoBulk {H : Type} : DataW H → Nat
  | .lit (.string bytes) => bytes.length + 1
  | .lit _ => 1
  | .nil => 1
  | .ptr d => uptoBulk d + 1
  | .slice elems spare => uptoBulkAll elems + uptoBulkAll spare + 1
  | .agg parts => uptoBulkAll parts + 1
  | .iface _ d => uptoBulk d + 1
  | .map entries => uptoBulkEntries entries + 1
  | .held _ => 1
def uptoBulkAll {H : Type} : List (DataW H) → Nat
  | [] => 0
  | d :: r => uptoBulk d + uptoBulkAll r
def uptoBulkEntries {H : Type} : List (Lit × DataW H) → Nat
  | [] => 0
  | x :: r => uptoBulkEntry x + uptoBulkEntries r
def uptoBulkEntry {H : Type} : Lit × DataW H → Nat
  | (.string bytes, d) => bytes.length + uptoBulk d + 1
  | (_, d) => uptoBulk d + 1
 end
def uptoSmall : (H : Type) → List (DataW H) → Bool := fun _ ds => decide (uptoBulkAll ds ≤ 1048576)
def OpenSpec.upto (s : _root_.Go.ChangeSpec) : _root_.Go.OpenSpec := { _root_.Go.OpenSpec.ofChange s with cond := some uptoSmall }

/-- 'magpielaw16.GroupAlike', WHERE WHAT IT READS IS OF BULK AT MOST 1048576: true; the input reads as it did. -/
def groupAlikeUptoRow : OpenClaim := { program := "ytoobjjpheegmdaagreat", sum := "0558f06cde9b3e891b39ffa3976f75e11a25f37d74d4489279deb55668288a30", func := "magpie/magpielaw16.GroupAlike", spec := "groupAlike", inPlace := ["internal/bytealg.IndexByteString", "internal/bytealg.IndexString"], unfollowed := true, recurses := true, named := ["internal/bytealg.MaxLen"], apart := false, narrowed := true }
def GroupAlikeUptoSaid : Prop := groupAlikeUptoRow.holds Tryz.pinned (OpenSpec.upto groupAlikeSpec)

/-- 'magpielaw16.GroupMakes', WHERE WHAT IT READS IS OF BULK AT MOST 1048576: true; the input reads as it did. -/
def groupMakesUptoRow : OpenClaim := { program := "ytoobjjpheegmdaagreat", sum := "0558f06cde9b3e891b39ffa3976f75e11a25f37d74d4489279deb55668288a30", func := "magpie/magpielaw16.GroupMakes", spec := "groupMakes", inPlace := ["internal/bytealg.IndexByteString", "internal/bytealg.IndexString"], unfollowed := true, recurses := true, named := ["internal/bytealg.MaxLen"], apart := false, narrowed := true }
def GroupMakesUptoSaid : Prop := groupMakesUptoRow.holds Tryz.pinned (OpenSpec.upto groupMakesSpec)

/-- 'magpielaw16.GroupEpochs', WHERE WHAT IT READS IS OF BULK AT MOST 1048576: true; the input reads as it did. -/
def groupEpochsUptoRow : OpenClaim := { program := "ytoobjjpheegmdaagreat", sum := "0558f06cde9b3e891b39ffa3976f75e11a25f37d74d4489279deb55668288a30", func := "magpie/magpielaw16.GroupEpochs", spec := "groupEpochs", inPlace := ["internal/bytealg.IndexByteString", "internal/bytealg.IndexString"], unfollowed := true, recurses := true, named := ["internal/bytealg.MaxLen"], apart := false, narrowed := true }
def GroupEpochsUptoSaid : Prop := groupEpochsUptoRow.holds Tryz.pinned (OpenSpec.upto groupEpochsSpec)

end Rows
end Go.Proofs.YtoobjjpheegmdaaGreat
