/-
  PACKAGE parse: Parse.
  THE LAWS' OWN: Parse as it is called, and that the document's examples are answered.
-/
import Derived.Test.YtkckgjanfiiieaaGreatDoorPrA
import Derived.Test.YtkckgjanfiiieaaGreatDoorMkA
import Derived.Defers
import Derived.Test.YtkckgjanfiiieaaGreatDoorPxA
import Derived.Test.YtkckgjanfiiieaaGreatDoorQyA
import Derived.Test.YtkckgjanfiiieaaGreatDoorFlA
import Derived.LoopN
import Derived.LaidEql
import Derived.Stop.Asserts
import Derived.RowKitTokens
import Derived.Test.YtkckgjanfiiieaaGreatDoorOwB
import Derived.BigRegion
import Derived.Laws.StructEq
namespace Go.Proofs.YtkckgjanfiiieaaGreatDoor
open Go.RowKit Go
open PX (tk isT)

theorem CB.drew {W : World} {B : Nat} {t : TypeId} {arr : Array Value} (h : CB W B t arr) : CB W.drew B t arr := h
theorem CB.below {n : Nat} {W W' : World} {B : Nat} {t : TypeId} {arr : Array Value} (h : CB W B t arr) (hk : Below n W W') (hn : B < n) : CB W' B t arr := (hk.block B hn).trans h

end Go.Proofs.YtkckgjanfiiieaaGreatDoor

namespace Go.Proofs.YtkckgjanfiiieaaGreatDoor
open Go.RowKit Go
open PX (tk isT)

end Go.Proofs.YtkckgjanfiiieaaGreatDoor
