/-
  match.Label, Labels, Query: DOES A QUERY KEEP AN ENTRY?
-/
import Derived.Test.YtfifjcjicipcmaaGreatDoorKe9
import Derived.Test.YtfifjcjicipcmaaGreatDoorShelf
import Derived.WalkKit
import Derived.Lib.QuietBelow
import Derived.Test.YtfifjcjicipcmaaGreatDoorEt
import Derived.Test.YtfifjcjicipcmaaGreatDoorQryA6
namespace Go.Proofs.YtfifjcjicipcmaaGreatDoor
open Go.RowKit Go
open Go.Sort (grow)

theorem E4.lay_below {w w' : World} (h : E4.Lay w w') : Below w.heap.size w w' := ⟨h.os, h.tape, h.output, h.size, fun _ hk => E4.Lay.block h hk⟩
theorem E4.labs_below {w w' : World} {v : Value} {ls : List E4.Lab} (h : E4.LabsAt (fun _ => True) w v ls) (hb : Below w.heap.size w w') : E4.LabsAt (fun _ => True) w' v ls := h.carry hb.size (fun _ _ hk => hb.block _ hk)

theorem MsAt.below9 {w w' : World} {v : Value} {l : List Mt} (h : MsAt w v l) (hb : Below w.heap.size w w') : MsAt w' v l := by
  obtain ⟨a, cap, hv, h1, h | ⟨b, off, ha, hlt, hc⟩⟩ := h
  · exact ⟨a, cap, hv, h1, .inl h⟩
  · exact ⟨a, cap, hv, h1, .inr ⟨b, off, ha, Nat.lt_of_lt_of_le hlt hb.size, fun i hi => ⟨(hb.cell hlt).trans (hc i hi).1, (hb.cell hlt).trans (hc i hi).2.1, (hb.cell hlt).trans (hc i hi).2.2⟩⟩⟩

/-- Does a matcher keep an entry? -/
def keepsM (e : E4.Ent) (m : Mt) : Bool := (((E4.valOf m.name e.labs).1.toList == m.value.toList) != m.not)

end Go.Proofs.YtfifjcjicipcmaaGreatDoor
