/-
  THE DOCUMENT'S OWN Source: Make.
-/
import Derived.Test.YtmodiemmcdocdaaGreatDoorQMkA
import Derived.Test.YtmodiemmcdocdaaGreatDoorQMakeFieldA6
import Derived.Test.YtmodiemmcdocdaaGreatDoorQMakeFieldB6
namespace Go.Proofs.YtmodiemmcdocdaaGreatDoor
open Go.RowKit Go

end Go.Proofs.YtmodiemmcdocdaaGreatDoor
