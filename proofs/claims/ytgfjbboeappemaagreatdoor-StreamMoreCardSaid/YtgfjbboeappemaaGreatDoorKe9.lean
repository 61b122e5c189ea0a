/-
  WHICH LINES A FILTER KEEPS: no program in it. Pieces between blanks; a filter of whatever kind.
-/
import Derived.Test.YtgfjbboeappemaaGreatDoorHw
import Derived.Test.YtgfjbboeappemaaGreatDoorQryA6
import Derived.Lib.IndexMore
namespace Go.Proofs.YtgfjbboeappemaaGreatDoor
open Go

/-- A filter's texts are no longer than so much, and each is of some kind. -/
inductive Fit : Ft → Prop
  | mk (o : Int) (n t : ByteArray) (k : List Ft) (ho : o ≠ 0) (hn : n.size ≤ 10000) (ht : t.size ≤ 10000) (hk : ∀ x ∈ k, Fit x) : Fit (.mk o n t k)

theorem Fit.name {o : Int} {n t : ByteArray} {k : List Ft} (h : Fit (.mk o n t k)) : n.size ≤ 10000 := by cases h; assumption

variable (line n t : ByteArray) (k : List Ft)
end Go.Proofs.YtgfjbboeappemaaGreatDoor
