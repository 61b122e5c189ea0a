/-
  THE DOCUMENT'S OWN Query: its blocks, its matchers.
-/
import Derived.Test.YtdjddlebjbngfaaGreatDoorFlA
import Derived.Test.YtdjddlebjbngfaaGreatDoorTrA
import Derived.OrdersIn
import Derived.WalkKit
import Derived.Deep.RegionLaw
import Derived.Deep.RegionWith
import Derived.OwnWalkIn
import Derived.TacticsInMore
import Derived.LoopNIn
import Derived.LoopIn
import Derived.RangeFuncLeaves
import Derived.RangeFuncCalls
namespace Go.Proofs.YtdjddlebjbngfaaGreatDoor
open Go.RowKit Go

/-- A block of such cells. -/
def CB (W : World) (B : Nat) (t : TypeId) (arr : Array Value) : Prop := W.heap[B]? = some (.cells arr t (0, 0))
theorem CB.lt {W : World} {B : Nat} {t : TypeId} {arr : Array Value} (h : CB W B t arr) : B < W.heap.size := (Array.getElem?_eq_some_iff.1 h).1
theorem CB.cell {W : World} {B : Nat} {t : TypeId} {arr : Array Value} (h : CB W B t arr) (i : Nat) : W.cell? ⟨B, i, none⟩ = arr[i]? := by simp [World.cell?, show W.heap[B]? = _ from h]
theorem CB.new (W : World) (t : TypeId) (arr : Array Value) : CB (W.alloc (.cells arr t)) W.heap.size t arr := World.alloc_heap_new W _
namespace Qy
end Qy

/-! ### One matcher more -/

section
variable {g Q B0 : Nat} {v : Value} {l : List Int} {p p1 p2 p3 n : Nat} {mv : Value} {pre : List Mt} {m : Mt} {W0 : World} {listed : Array Bool} {ys : Nat → Value} {w : World}

end

end Go.Proofs.YtdjddlebjbngfaaGreatDoor
