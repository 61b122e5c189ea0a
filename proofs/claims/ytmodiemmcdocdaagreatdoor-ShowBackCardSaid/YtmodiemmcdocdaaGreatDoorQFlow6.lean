/-
  A REGION THAT DRAWS ITS ORDER, operation by operation, inside a fence that lets all functions in (in a round, too): each operation is shown once, from what the operations that it waits for have left, in whatever world that the others may have led to; so the work grows with the number of operations, not of orders. The invariant may speak of which operations are over, and of what they left.
-/
import Derived.OrdersIn
import Derived.WalkKit
namespace Go.Proofs.YtmodiemmcdocdaaGreatDoor
open Go

section
variable {F : Fence} {n : Nat} {P : Program} {ops : Array Oper} {Q : Exit → Act → World → Prop}

end

end Go.Proofs.YtmodiemmcdocdaaGreatDoor
