/-
  WHAT THE PACKAGE-LEVEL VARIABLES HOLD THAT package lex AND WHAT IT CALLS READ.
-/
import Derived.Test.YtmodiemmcdocdaaGreatDoorQShelf
import Derived.Test.YtmodiemmcdocdaaGreatDoorQWdA
import Derived.Lib.SmallJoins
import Derived.Lib.ItoaMem
import Derived.Lib.LaidTab
import Derived.FnData
namespace Go.Proofs.YtmodiemmcdocdaaGreatDoor
open Go.RowKit Go

/-- lex.signs. -/
def signsB : List ByteArray := [⟨#[33, 61]⟩, ⟨#[61]⟩, ⟨#[40]⟩, ⟨#[41]⟩]

structure Tabs (w : World) : Prop where
  utf : Lib.Utf8Tabs 2 3 w
  pow : Lib.TabIs Tryz.prog w "internal/strconv.uint64pow10" .u64 Lib.pow10Tab
  signs : w.var? Tryz.prog "magpie/lex.signs" = some (signsB.map Value.string).toArray
  syn : ∃ tp p, w.var? Tryz.prog "strconv.ErrSyntax" = some #[.iface tp p]
  rng : ∃ tp p, w.var? Tryz.prog "strconv.ErrRange" = some #[.iface tp p]
  ety : w.var? Tryz.prog "errors.errorType" = some #[.iface 151 (.agg #[.pointer (some ⟨10, 60, none⟩)])]

theorem gPow : Tryz.prog.globalNamed "internal/strconv.uint64pow10" = some 4 := by kernel_rfl
theorem gSigns : Tryz.prog.globalNamed "magpie/lex.signs" = some 1 := by kernel_rfl
theorem gSyn : Tryz.prog.globalNamed "strconv.ErrSyntax" = some 8 := by kernel_rfl
theorem gRng : Tryz.prog.globalNamed "strconv.ErrRange" = some 9 := by kernel_rfl

theorem gEty : Tryz.prog.globalNamed "errors.errorType" = some 0 := by kernel_rfl

theorem Tabs.next {w w' : World} (h : Tabs w) (hb : Below w.heap.size w w') : Tabs w' := by
  obtain ⟨h1, h2, h3, ⟨tp, p, h4⟩, ⟨tq, q, h5⟩, h6⟩ := h
  exact ⟨Utf8Tabs_below h1 hb, Joins.tab_stays gPow h2 hb (Nat.le_refl _), Joins.var_stays gSigns h3 hb (Nat.le_refl _), ⟨tp, p, Joins.var_stays gSyn h4 hb (Nat.le_refl _)⟩, ⟨tq, q, Joins.var_stays gRng h5 hb (Nat.le_refl _)⟩, Joins.var_stays gEty h6 hb (Nat.le_refl _)⟩

theorem Tabs.sign {w : World} (h : Tabs w) (k : Nat) : w.cell? ⟨1, k, none⟩ = (signsB.map Value.string)[k]? := by
  rw [World.var?_cell gSigns h.signs k, List.getElem?_toArray]

theorem Tabs.synCell {w : World} (h : Tabs w) : ∃ tp p, w.cell? ⟨8, 0, none⟩ = some (.iface tp p) := by
  obtain ⟨tp, p, h⟩ := h.syn
  exact ⟨tp, p, by rw [World.var?_cell gSyn h 0]; rfl⟩

theorem Tabs.rngCell {w : World} (h : Tabs w) : ∃ tp p, w.cell? ⟨9, 0, none⟩ = some (.iface tp p) := by
  obtain ⟨tp, p, h⟩ := h.rng
  exact ⟨tp, p, by rw [World.var?_cell gRng h 0]; rfl⟩

theorem Tabs.etyCell {w : World} (h : Tabs w) : w.cell? ⟨0, 0, none⟩ = some (.iface 151 (.agg #[.pointer (some ⟨10, 60, none⟩)])) := by
  rw [World.var?_cell gEty h.ety 0]
  rfl

end Go.Proofs.YtmodiemmcdocdaaGreatDoor
