/-
  WHAT THE DOCUMENT TELLS OF match: the laws' first test.
-/
import Derived.Test.YtidjodplimkmgaaLb9
namespace Go.Proofs.Ytidjodplimkmgaa
open Go.RowKit Go

theorem IntsAt.below9 {w w' : World} {v : Value} {l : List Int} (h : IntsAt w v l) (hb : Below w.heap.size w w') : IntsAt w' v l := by
  obtain ⟨a, cap, hv, h1, h | ⟨b, off, ha, hlt, hc⟩⟩ := h
  · exact ⟨a, cap, hv, h1, .inl h⟩
  · exact ⟨a, cap, hv, h1, .inr ⟨b, off, ha, Nat.lt_of_lt_of_le hlt hb.size, fun i hi => (hb.cell hlt).trans (hc i hi)⟩⟩

end Go.Proofs.Ytidjodplimkmgaa
