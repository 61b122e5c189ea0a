/-
  match.Label, Labels, Query: DOES A QUERY KEEP AN ENTRY?
-/
import Derived.Test.YtdjddlebjbngfaaGreatDoorHw
import Derived.Test.YtdjddlebjbngfaaGreatDoorTrA
import Derived.Lib.IndexMore
import Derived.Test.YtdjddlebjbngfaaGreatDoorShelf
import Derived.Test.YtdjddlebjbngfaaGreatDoorEt
import Derived.Test.YtdjddlebjbngfaaGreatDoorQryA6
import Derived.WalkKit
import Derived.Lib.QuietBelow
namespace Go.Proofs.YtdjddlebjbngfaaGreatDoor.E4
open Go.RowKit Go

end Go.Proofs.YtdjddlebjbngfaaGreatDoor.E4

namespace Go.Proofs.YtdjddlebjbngfaaGreatDoor
open Go.RowKit Go
open Go.Sort (grow)

theorem E4.lay_below {w w' : World} (h : E4.Lay w w') : Below w.heap.size w w' := ⟨h.os, h.tape, h.output, h.size, fun _ hk => E4.Lay.block h hk⟩
end Go.Proofs.YtdjddlebjbngfaaGreatDoor
