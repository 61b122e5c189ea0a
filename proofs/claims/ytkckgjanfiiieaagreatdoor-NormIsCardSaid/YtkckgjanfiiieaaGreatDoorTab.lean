/-
  WHAT THE PACKAGE-LEVEL VARIABLES HOLD THAT package lex AND WHAT IT CALLS READ.
-/
import Derived.Test.YtkckgjanfiiieaaGreatDoorShelf
import Derived.Test.YtkckgjanfiiieaaGreatDoorWdA
import Derived.Lib.SmallJoins
import Derived.Lib.ItoaMem
import Derived.Lib.LaidTab
import Derived.FnData
namespace Go.Proofs.YtkckgjanfiiieaaGreatDoor
open Go.RowKit Go

structure Tabs (w : World) : Prop where
  utf : Lib.Utf8Tabs 4 5 w
  pow : Lib.TabIs Tryz.prog w "internal/strconv.uint64pow10" .u64 Lib.pow10Tab

theorem gPow : Tryz.prog.globalNamed "internal/strconv.uint64pow10" = some 0 := by kernel_rfl

theorem Tabs.next {w w' : World} (h : Tabs w) (hb : Below w.heap.size w w') : Tabs w' := by
  obtain ⟨h1, h2⟩ := h
  exact ⟨Utf8Tabs_below h1 hb, Joins.tab_stays gPow h2 hb (Nat.le_refl _)⟩

end Go.Proofs.YtkckgjanfiiieaaGreatDoor
