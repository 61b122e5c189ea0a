/-
  THE DOCUMENT'S OWN Source: Make, of a Field.
-/
import Derived.Test.YtmodiemmcdocdaaGreatDoorQMkA
import Derived.Deep.RegionWith
namespace Go.Proofs.YtmodiemmcdocdaaGreatDoor
open Go.RowKit Go

end Go.Proofs.YtmodiemmcdocdaaGreatDoor
