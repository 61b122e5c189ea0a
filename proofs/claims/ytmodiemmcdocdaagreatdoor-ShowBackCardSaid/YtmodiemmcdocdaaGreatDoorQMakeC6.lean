/-
  HOW MANY FILTERS A MADE ONE HAS; a good filter's kids are good: no program in it.
-/
import Derived.Test.YtmodiemmcdocdaaGreatDoorQTrA
namespace Go.Proofs.YtmodiemmcdocdaaGreatDoor
open Go
namespace Ft

end Ft
end Go.Proofs.YtmodiemmcdocdaaGreatDoor
