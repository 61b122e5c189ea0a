/-
  PACKAGE parse: Parse.
  THE LAWS' OWN: Parse as it is called, and that the document's examples are answered.
-/
import Derived.Test.YtkckgjanfiiieaaDoorPrA
import Derived.Test.YtkckgjanfiiieaaDoorMkA
import Derived.Defers
import Derived.Test.YtkckgjanfiiieaaDoorPxA
import Derived.Test.YtkckgjanfiiieaaDoorQyA
import Derived.Test.YtkckgjanfiiieaaDoorFlA
import Derived.LoopN
import Derived.LaidEql
import Derived.RowKitTokens
import Derived.Test.YtkckgjanfiiieaaDoorOwB
import Derived.BigRegion
import Derived.Laws.StructEq
namespace Go.Proofs.YtkckgjanfiiieaaDoor
open Go.RowKit Go
open PX (tk isT)

theorem CB.drew {W : World} {B : Nat} {t : TypeId} {arr : Array Value} (h : CB W B t arr) : CB W.drew B t arr := h
theorem CB.below {n : Nat} {W W' : World} {B : Nat} {t : TypeId} {arr : Array Value} (h : CB W B t arr) (hk : Below n W W') (hn : B < n) : CB W' B t arr := (hk.block B hn).trans h

end Go.Proofs.YtkckgjanfiiieaaDoor

namespace Go.Proofs.YtkckgjanfiiieaaDoor
open Go.RowKit Go
open PX (tk isT)

end Go.Proofs.YtkckgjanfiiieaaDoor
