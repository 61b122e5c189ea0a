/-
  NARROWER THAN 'FOR EVERY INPUT', by the rows' own cells (each row's printed sentence says how): TreeGood: loops.
  DERIVED. THE GIVEN ROWS OF THIS SEAT. 6 by the template 'for every input the law returns true; each argument reads behind the call as it read before'; 0 by the template 'total and deterministic' (their statements: YtgmahdeaggjjgaaTotals.lean).
  GIVEN WITH THE SEED: the statements are not yours to turn. If you find one false, say at which input.
  Laid BY PROGRAM, IN A SANDBOX (cutbox-rows.mjs): the forced cells as the released guide's own fill.sh prints them over the translation e2bbdc0abbe0ea2c… (all of the seat's roots in one cut). By AI agents, Wed Nov 11 2026. No macro, syntax, notation, axiom, sorry.
-/
import Derived.Test.YtgmahdeaggjjgaaChecked
import GoSem.Claim
import GoSem.ClaimJoined
import GoSem.ClaimMapViews
import Derived.JoinedTies
import Derived.KernelRfl
namespace Go.Proofs.Ytgmahdeaggjjgaa
/- THE CELL 'sum', in the pinned program and in every row, IS THE sha256 OF THE DUMP (.gsa) THAT YtgmahdeaggjjgaaProg.lean LOADS. Nothing in Lean hashes anything: it is a label: what it is worth is what the hold of that sum in a sandbox is worth. -/
noncomputable def Try.pinned : Pinned := { name := "ytgmahdeaggjjgaa", sum := "e2bbdc0abbe0ea2c7a98d5a91b60ce3d7b99a250375ef21cdfac31a963d4706d", checked := Try.checked }
namespace Rows
def none {H : Type} : Left H := { results := [], args := [] }

/-- 'magpielaw06.TreeAll': WHATEVER THE INPUT: true; the input reads as it did. -/
def treeAllSpec : ChangeSpec := { name := "treeAll", fn := fun _ => fun
  | [d1, d2] => { results := [.lit (.bool true)], args := [d1, d2] }
  | _ => none }
def treeAllRow : OpenClaim := { program := "ytgmahdeaggjjgaa", sum := "e2bbdc0abbe0ea2c7a98d5a91b60ce3d7b99a250375ef21cdfac31a963d4706d", func := "magpie/magpielaw06.TreeAll", spec := "treeAll", unfollowed := true, recurses := true, apart := false }
def TreeAllSaid : Prop := treeAllRow.holds Try.pinned (OpenSpec.ofChange treeAllSpec)

/-- ITS FALSE NEIGHBOUR: 'it returns false'. Refute it at one input. -/
def treeAllWrong : ChangeSpec := { name := "treeAll", fn := fun _ => fun
  | [d1, d2] => { results := [.lit (.bool false)], args := [d1, d2] }
  | _ => none }
def TreeAllWrongFalsely : Prop := treeAllRow.holds Try.pinned (OpenSpec.ofChange treeAllWrong)

/-- 'magpielaw06.TreeSame': WHATEVER THE INPUT: true; the input reads as it did. -/
def treeSameSpec : ChangeSpec := { name := "treeSame", fn := fun _ => fun
  | [d1, d2] => { results := [.lit (.bool true)], args := [d1, d2] }
  | _ => none }
def treeSameRow : OpenClaim := { program := "ytgmahdeaggjjgaa", sum := "e2bbdc0abbe0ea2c7a98d5a91b60ce3d7b99a250375ef21cdfac31a963d4706d", func := "magpie/magpielaw06.TreeSame", spec := "treeSame", unfollowed := true, recurses := true, apart := false }
def TreeSameSaid : Prop := treeSameRow.holds Try.pinned (OpenSpec.ofChange treeSameSpec)

/-- ITS FALSE NEIGHBOUR: 'it returns false'. Refute it at one input. -/
def treeSameWrong : ChangeSpec := { name := "treeSame", fn := fun _ => fun
  | [d1, d2] => { results := [.lit (.bool false)], args := [d1, d2] }
  | _ => none }
def TreeSameWrongFalsely : Prop := treeSameRow.holds Try.pinned (OpenSpec.ofChange treeSameWrong)

/-- 'magpielaw06.TreeTurned': WHATEVER THE INPUT: true; the input reads as it did. -/
def treeTurnedSpec : ChangeSpec := { name := "treeTurned", fn := fun _ => fun
  | [d1, d2] => { results := [.lit (.bool true)], args := [d1, d2] }
  | _ => none }
def treeTurnedRow : OpenClaim := { program := "ytgmahdeaggjjgaa", sum := "e2bbdc0abbe0ea2c7a98d5a91b60ce3d7b99a250375ef21cdfac31a963d4706d", func := "magpie/magpielaw06.TreeTurned", spec := "treeTurned", unfollowed := true, recurses := true, apart := false }
def TreeTurnedSaid : Prop := treeTurnedRow.holds Try.pinned (OpenSpec.ofChange treeTurnedSpec)

/-- ITS FALSE NEIGHBOUR: 'it returns false'. Refute it at one input. -/
def treeTurnedWrong : ChangeSpec := { name := "treeTurned", fn := fun _ => fun
  | [d1, d2] => { results := [.lit (.bool false)], args := [d1, d2] }
  | _ => none }
def TreeTurnedWrongFalsely : Prop := treeTurnedRow.holds Try.pinned (OpenSpec.ofChange treeTurnedWrong)

/-- 'magpielaw06.TreeGood': WHATEVER THE INPUT: true; the input reads as it did. -/
def treeGoodSpec : ChangeSpec := { name := "treeGood", fn := fun _ => fun
  | [d] => { results := [.lit (.bool true)], args := [d] }
  | _ => none }
def treeGoodRow : OpenClaim := { program := "ytgmahdeaggjjgaa", sum := "e2bbdc0abbe0ea2c7a98d5a91b60ce3d7b99a250375ef21cdfac31a963d4706d", func := "magpie/magpielaw06.TreeGood", spec := "treeGood", unfollowed := true, recurses := true, loops := true, apart := false }
def TreeGoodSaid : Prop := treeGoodRow.holds Try.pinned (OpenSpec.ofChange treeGoodSpec)

/-- ITS FALSE NEIGHBOUR: 'it returns false'. Refute it at one input. -/
def treeGoodWrong : ChangeSpec := { name := "treeGood", fn := fun _ => fun
  | [d] => { results := [.lit (.bool false)], args := [d] }
  | _ => none }
def TreeGoodWrongFalsely : Prop := treeGoodRow.holds Try.pinned (OpenSpec.ofChange treeGoodWrong)

/-- 'magpielaw06.TreeNots': WHATEVER THE INPUT: true; the input reads as it did. -/
def treeNotsSpec : ChangeSpec := { name := "treeNots", fn := fun _ => fun
  | [d1, d2] => { results := [.lit (.bool true)], args := [d1, d2] }
  | _ => none }
def treeNotsRow : OpenClaim := { program := "ytgmahdeaggjjgaa", sum := "e2bbdc0abbe0ea2c7a98d5a91b60ce3d7b99a250375ef21cdfac31a963d4706d", func := "magpie/magpielaw06.TreeNots", spec := "treeNots", unfollowed := true, recurses := true, apart := false }
def TreeNotsSaid : Prop := treeNotsRow.holds Try.pinned (OpenSpec.ofChange treeNotsSpec)

/-- ITS FALSE NEIGHBOUR: 'it returns false'. Refute it at one input. -/
def treeNotsWrong : ChangeSpec := { name := "treeNots", fn := fun _ => fun
  | [d1, d2] => { results := [.lit (.bool false)], args := [d1, d2] }
  | _ => none }
def TreeNotsWrongFalsely : Prop := treeNotsRow.holds Try.pinned (OpenSpec.ofChange treeNotsWrong)

/-- 'magpielaw06.TreeCounts': WHATEVER THE INPUT: true; the input reads as it did. -/
def treeCountsSpec : ChangeSpec := { name := "treeCounts", fn := fun _ => fun
  | [d] => { results := [.lit (.bool true)], args := [d] }
  | _ => none }
def treeCountsRow : OpenClaim := { program := "ytgmahdeaggjjgaa", sum := "e2bbdc0abbe0ea2c7a98d5a91b60ce3d7b99a250375ef21cdfac31a963d4706d", func := "magpie/magpielaw06.TreeCounts", spec := "treeCounts", unfollowed := true, recurses := true, apart := false }
def TreeCountsSaid : Prop := treeCountsRow.holds Try.pinned (OpenSpec.ofChange treeCountsSpec)

/-- ITS FALSE NEIGHBOUR: 'it returns false'. Refute it at one input. -/
def treeCountsWrong : ChangeSpec := { name := "treeCounts", fn := fun _ => fun
  | [d] => { results := [.lit (.bool false)], args := [d] }
  | _ => none }
def TreeCountsWrongFalsely : Prop := treeCountsRow.holds Try.pinned (OpenSpec.ofChange treeCountsWrong)

/- THE SECOND FORM. 'bulk': how many values and letters a reading holds, each counted each time it is reached (what is shared counts as often as it is met; a slice's spare places count too). A statement '..UptoSaid' is the law's where the arguments, and the package variables that the reading takes, are together of bulk at most 1048576: NARROWER than '..Said'. Prove '..Said' where nothing that the law and all that it calls make is longer than what came in: it says more and counts as full. Else prove '..UptoSaid'. A law counts once. -/
mutual
def uptoBulk {H : Type} : DataW H → Nat
  | .lit (.string bytes) => bytes.length + 1
  | .lit _ => 1
  | .nil => 1
  | .ptr d => uptoBulk d + 1
  | .slice elems spare => uptoBulkAll elems + uptoBulkAll spare + 1
  | .agg parts => uptoBulkAll parts + 1
  | .iface _ d => uptoBulk d + 1
  | .map entries => uptoBulkEntries entries + 1
  | .held _ => 1
def uptoBulkAll {H : Type} : List (DataW H) → Nat
  | [] => 0
  | d :: r => uptoBulk d + uptoBulkAll r
def uptoBulkEntries {H : Type} : List (Lit × DataW H) → Nat
  | [] => 0
  | x :: r => uptoBulkEntry x + uptoBulkEntries r
def uptoBulkEntry {H : Type} : Lit × DataW H → Nat
  | (.string bytes, d) => bytes.length + uptoBulk d + 1
  | (_, d) => uptoBulk d + 1
 end
def uptoSmall : (H : Type) → List (DataW H) → Bool := fun _ ds => decide (uptoBulkAll ds ≤ 1048576)
def OpenSpec.upto (s : _root_.Go.ChangeSpec) : _root_.Go.OpenSpec := { _root_.Go.OpenSpec.ofChange s with cond := some uptoSmall }

/-- 'magpielaw06.TreeAll', WHERE WHAT IT READS IS OF BULK AT MOST 1048576: true; the input reads as it did. -/
def treeAllUptoRow : OpenClaim := { program := "ytgmahdeaggjjgaa", sum := "e2bbdc0abbe0ea2c7a98d5a91b60ce3d7b99a250375ef21cdfac31a963d4706d", func := "magpie/magpielaw06.TreeAll", spec := "treeAll", unfollowed := true, recurses := true, apart := false, narrowed := true }
def TreeAllUptoSaid : Prop := treeAllUptoRow.holds Try.pinned (OpenSpec.upto treeAllSpec)

/-- 'magpielaw06.TreeSame', WHERE WHAT IT READS IS OF BULK AT MOST 1048576: true; the input reads as it did. -/
def treeSameUptoRow : OpenClaim := { program := "ytgmahdeaggjjgaa", sum := "e2bbdc0abbe0ea2c7a98d5a91b60ce3d7b99a250375ef21cdfac31a963d4706d", func := "magpie/magpielaw06.TreeSame", spec := "treeSame", unfollowed := true, recurses := true, apart := false, narrowed := true }
def TreeSameUptoSaid : Prop := treeSameUptoRow.holds Try.pinned (OpenSpec.upto treeSameSpec)

/-- 'magpielaw06.TreeTurned', WHERE WHAT IT READS IS OF BULK AT MOST 1048576: true; the input reads as it did. -/
def treeTurnedUptoRow : OpenClaim := { program := "ytgmahdeaggjjgaa", sum := "e2bbdc0abbe0ea2c7a98d5a91b60ce3d7b99a250375ef21cdfac31a963d4706d", func := "magpie/magpielaw06.TreeTurned", spec := "treeTurned", unfollowed := true, recurses := true, apart := false, narrowed := true }
def TreeTurnedUptoSaid : Prop := treeTurnedUptoRow.holds Try.pinned (OpenSpec.upto treeTurnedSpec)

/-- 'magpielaw06.TreeGood', WHERE WHAT IT READS IS OF BULK AT MOST 1048576: true; the input reads as it did. -/
def treeGoodUptoRow : OpenClaim := { program := "ytgmahdeaggjjgaa", sum := "e2bbdc0abbe0ea2c7a98d5a91b60ce3d7b99a250375ef21cdfac31a963d4706d", func := "magpie/magpielaw06.TreeGood", spec := "treeGood", unfollowed := true, recurses := true, loops := true, apart := false, narrowed := true }
def TreeGoodUptoSaid : Prop := treeGoodUptoRow.holds Try.pinned (OpenSpec.upto treeGoodSpec)

/-- 'magpielaw06.TreeNots', WHERE WHAT IT READS IS OF BULK AT MOST 1048576: true; the input reads as it did. -/
def treeNotsUptoRow : OpenClaim := { program := "ytgmahdeaggjjgaa", sum := "e2bbdc0abbe0ea2c7a98d5a91b60ce3d7b99a250375ef21cdfac31a963d4706d", func := "magpie/magpielaw06.TreeNots", spec := "treeNots", unfollowed := true, recurses := true, apart := false, narrowed := true }
def TreeNotsUptoSaid : Prop := treeNotsUptoRow.holds Try.pinned (OpenSpec.upto treeNotsSpec)

/-- 'magpielaw06.TreeCounts', WHERE WHAT IT READS IS OF BULK AT MOST 1048576: true; the input reads as it did. -/
def treeCountsUptoRow : OpenClaim := { program := "ytgmahdeaggjjgaa", sum := "e2bbdc0abbe0ea2c7a98d5a91b60ce3d7b99a250375ef21cdfac31a963d4706d", func := "magpie/magpielaw06.TreeCounts", spec := "treeCounts", unfollowed := true, recurses := true, apart := false, narrowed := true }
def TreeCountsUptoSaid : Prop := treeCountsUptoRow.holds Try.pinned (OpenSpec.upto treeCountsSpec)

end Rows
end Go.Proofs.Ytgmahdeaggjjgaa
