/-
  Queries in memory stay; a parsed query's size.
-/
import Derived.Test.YtkckgjanfiiieaaGreatDoorPxB
import Derived.Test.YtkckgjanfiiieaaGreatDoorFlA
namespace Go.Proofs.YtkckgjanfiiieaaGreatDoor
open Go.RowKit Go
open PX (tk isT)

theorem MsAt.below {w w' : World} {v : Value} {l : List Mt} (h : MsAt w v l) (hl : Below w.heap.size w w') : MsAt w' v l := by
  obtain ⟨a, cap, hv, h1, h | ⟨b, off, ha, hlt, hc⟩⟩ := h
  · exact ⟨a, cap, hv, h1, .inl h⟩
  · exact ⟨a, cap, hv, h1, .inr ⟨b, off, ha, Nat.lt_of_lt_of_le hlt hl.size, fun i hi => ⟨(World.cell?_of_block (a := ⟨b, off + i * 3, none⟩) (hl.block b hlt)).trans (hc i hi).1, (World.cell?_of_block (a := ⟨b, off + i * 3 + 1, none⟩) (hl.block b hlt)).trans (hc i hi).2.1, (World.cell?_of_block (a := ⟨b, off + i * 3 + 2, none⟩) (hl.block b hlt)).trans (hc i hi).2.2⟩⟩⟩
theorem QAt.below {w w' : World} {v : Value} {q : Qy} (h : QAt w v q) (hl : Below w.heap.size w w') : QAt w' v q := by
  obtain ⟨mv, fv, hv, hm, hf⟩ := h
  exact ⟨mv, fv, hv, hm.below hl, KsAt.below hl _ _ hf⟩

end Go.Proofs.YtkckgjanfiiieaaGreatDoor
