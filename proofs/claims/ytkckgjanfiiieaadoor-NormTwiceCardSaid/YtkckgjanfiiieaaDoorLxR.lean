/-
  THE DOCUMENT'S OWN: Quote, text.
  THE DOCUMENT'S OWN Number.
  THE DOCUMENT'S OWN Lex.
  What the document's own Lex answers, in two lemmas.
-/
import Derived.Test.YtkckgjanfiiieaaDoorLxA
import Derived.Test.YtkckgjanfiiieaaDoorLxS
import Derived.Laws.Concat
import Derived.OwnWalk
import Derived.Test.YtkckgjanfiiieaaDoorOwB
namespace Go.Proofs.YtkckgjanfiiieaaDoor
open Go.RowKit Go

/-- What text answers. -/
def textOf : Option (List UInt8 × Nat) → Value
  | some q => .tuple #[.string ⟨q.1.toArray⟩, .int .i64 (q.2 : Nat)]
  | none => .tuple #[.string ⟨#[]⟩, .int .i64 (-1)]

end Go.Proofs.YtkckgjanfiiieaaDoor

namespace Go.Proofs.YtkckgjanfiiieaaDoor
open Go.RowKit Go

end Go.Proofs.YtkckgjanfiiieaaDoor

namespace Go.Proofs.YtkckgjanfiiieaaDoor
open Go.RowKit Go

end Go.Proofs.YtkckgjanfiiieaaDoor

namespace Go.Proofs.YtkckgjanfiiieaaDoor
open Go.RowKit Go

end Go.Proofs.YtkckgjanfiiieaaDoor
