/-
  WHAT A TEXT IS PARSED TO CAN BE TOLD AGAIN, in not too many letters. No program in it.
-/
import Derived.Test.YtkckgjanfiiieaaGreatDoorPxB
namespace Go.Proofs.YtkckgjanfiiieaaGreatDoor.LX
open Go MW

end Go.Proofs.YtkckgjanfiiieaaGreatDoor.LX

namespace Go.Proofs.YtkckgjanfiiieaaGreatDoor.PX
open Go LX MW

mutual
/-- What a filter's text may cost. -/
def tl : Ft → Nat
  | .mk _ n t kids => 30 + n.size + 2 * t.size + tls kids
def tls : List Ft → Nat
  | [] => 0
  | k :: r => tl k + tls r
end

theorem tl_leaf (op : Int) (n t : ByteArray) : tl (.mk op n t []) = 30 + n.size + 2 * t.size := by rw [tl, tls]; rfl
end Go.Proofs.YtkckgjanfiiieaaGreatDoor.PX
