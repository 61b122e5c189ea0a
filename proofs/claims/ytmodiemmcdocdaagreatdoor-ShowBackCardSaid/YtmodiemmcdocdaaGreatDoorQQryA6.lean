/-
  THE DOCUMENT'S OWN Query: its blocks, its matchers.
-/
import Derived.Test.YtmodiemmcdocdaaGreatDoorQQyA
import Derived.Test.YtmodiemmcdocdaaGreatDoorQFlow6
import Derived.Test.YtmodiemmcdocdaaGreatDoorQMakeW6
import Derived.OwnWalkIn
import Derived.TacticsInMore
import Derived.LoopNIn
import Derived.LoopIn
import Derived.RangeFuncLeaves
import Derived.RangeFuncCalls
namespace Go.Proofs.YtmodiemmcdocdaaGreatDoor
open Go.RowKit Go

theorem KsB.shape {G : Nat → Prop} {w : World} {kv : Value} {f : Ft} (h : KsB G w kv f) : ∃ a c, kv = .slice a f.kids.length c := (KsB.at _ _ h).shape

/-- A block of such cells. -/
def CB (W : World) (B : Nat) (t : TypeId) (arr : Array Value) : Prop := W.heap[B]? = some (.cells arr t (0, 0))
theorem CB.lt {W : World} {B : Nat} {t : TypeId} {arr : Array Value} (h : CB W B t arr) : B < W.heap.size := (Array.getElem?_eq_some_iff.1 h).1
theorem CB.cell {W : World} {B : Nat} {t : TypeId} {arr : Array Value} (h : CB W B t arr) (i : Nat) : W.cell? ⟨B, i, none⟩ = arr[i]? := by simp [World.cell?, show W.heap[B]? = _ from h]
theorem CB.frozen {W : World} {B : Nat} {t : TypeId} {arr : Array Value} (h : CB W B t arr) (i : Nat) : W.frozen? ⟨B, i, none⟩ = false := by simp [World.frozen?, show W.heap[B]? = _ from h]
theorem CB.new (W : World) (t : TypeId) (arr : Array Value) : CB (W.alloc (.cells arr t)) W.heap.size t arr := World.alloc_heap_new W _
theorem CB.keep {G : Nat → Prop} {W W' : World} {B : Nat} {t : TypeId} {arr : Array Value} (h : CB W B t arr) (hk : Keep G W W') (hn : ¬ G B) : CB W' B t arr := (hk.block B h.lt hn).trans h
theorem CB.set {W : World} {B : Nat} {t : TypeId} {arr : Array Value} (h : CB W B t arr) (i : Nat) (u : Value) : CB (W.setCell ⟨B, i, none⟩ u) B t (arr.setIfInBounds i u) := by
  obtain ⟨hlt, hk⟩ := Array.getElem?_eq_some_iff.1 h
  show (W.heap.modify B _)[B]? = _
  rw [Array.getElem?_eq_getElem (by rw [Array.size_modify]; exact hlt), Array.getElem_modify_self, hk]
  rfl

namespace Qy
end Qy

section
variable {g Q B0 : Nat} {v : Value} {l : List Int} {p p1 p2 p3 n : Nat} {mv : Value} {pre : List Mt} {m : Mt} {W0 : World} {listed : Array Bool} {ys : Nat → Value} {w : World}

end

end Go.Proofs.YtmodiemmcdocdaaGreatDoor
