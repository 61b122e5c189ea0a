/-
  match.Line OF FILTERS WITH KIDS, and of all.
-/
import Derived.Test.YtkckgjanfiiieaaDoorKe9
import Derived.Test.YtkckgjanfiiieaaDoorShelf
import Derived.WalkKit
import Derived.Lib.QuietBelow
namespace Go.Proofs.YtkckgjanfiiieaaDoor
open Go.RowKit Go

theorem counts_in : ∀ (k : List Ft) (x : Ft), x ∈ k → x.count ≤ Ft.counts k
  | [], x, h => by simp at h
  | y :: r, x, h => by
    rw [Ft.counts]
    rcases List.mem_cons.1 h with rfl | h
    · omega
    · have := counts_in r x h
      omega

theorem count_kid {o : Int} {n t : ByteArray} {k : List Ft} {x : Ft} (h : x ∈ k) : x.count < (Ft.mk o n t k).count := by
  have := counts_in k x h
  rw [Ft.count]
  omega

end Go.Proofs.YtkckgjanfiiieaaDoor
