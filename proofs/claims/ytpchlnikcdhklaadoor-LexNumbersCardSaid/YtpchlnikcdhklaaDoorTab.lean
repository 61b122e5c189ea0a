/-
  WHAT THE PACKAGE-LEVEL VARIABLES HOLD THAT package lex AND WHAT IT CALLS READ.
-/
import Derived.Test.YtpchlnikcdhklaaDoorShelf
import Derived.Test.YtpchlnikcdhklaaDoorRow
import Derived.Lib.SmallJoins
import Derived.Lib.ItoaMem
import Derived.Lib.LaidTab
import Derived.FnData
namespace Go.Proofs.YtpchlnikcdhklaaDoor
open Go.RowKit Go

/-- lex.signs. -/
def signsB : List ByteArray := [⟨#[33, 61]⟩, ⟨#[61]⟩, ⟨#[40]⟩, ⟨#[41]⟩]

structure Tabs (w : World) : Prop where
  utf : Lib.Utf8Tabs 1 2 w
  pow : Lib.TabIs Tryd.prog w "internal/strconv.uint64pow10" .u64 Lib.pow10Tab
  signs : w.var? Tryd.prog "magpie/lex.signs" = some (signsB.map Value.string).toArray
  syn : ∃ tp p, w.var? Tryd.prog "strconv.ErrSyntax" = some #[.iface tp p]
  rng : ∃ tp p, w.var? Tryd.prog "strconv.ErrRange" = some #[.iface tp p]

theorem gPow : Tryd.prog.globalNamed "internal/strconv.uint64pow10" = some 4 := by kernel_rfl
theorem gSigns : Tryd.prog.globalNamed "magpie/lex.signs" = some 0 := by kernel_rfl
theorem gSyn : Tryd.prog.globalNamed "strconv.ErrSyntax" = some 7 := by kernel_rfl
theorem gRng : Tryd.prog.globalNamed "strconv.ErrRange" = some 8 := by kernel_rfl

theorem Tabs.next {w w' : World} (h : Tabs w) (hb : Below w.heap.size w w') : Tabs w' := by
  obtain ⟨h1, h2, h3, ⟨tp, p, h4⟩, ⟨tq, q, h5⟩⟩ := h
  exact ⟨Utf8Tabs_below h1 hb, Joins.tab_stays gPow h2 hb (Nat.le_refl _), Joins.var_stays gSigns h3 hb (Nat.le_refl _), ⟨tp, p, Joins.var_stays gSyn h4 hb (Nat.le_refl _)⟩, ⟨tq, q, Joins.var_stays gRng h5 hb (Nat.le_refl _)⟩⟩

theorem Tabs.sign {w : World} (h : Tabs w) (k : Nat) : w.cell? ⟨0, k, none⟩ = (signsB.map Value.string)[k]? := by
  rw [World.var?_cell gSigns h.signs k, List.getElem?_toArray]

theorem Tabs.synCell {w : World} (h : Tabs w) : ∃ tp p, w.cell? ⟨7, 0, none⟩ = some (.iface tp p) := by
  obtain ⟨tp, p, h⟩ := h.syn
  exact ⟨tp, p, by rw [World.var?_cell gSyn h 0]; rfl⟩

theorem Tabs.rngCell {w : World} (h : Tabs w) : ∃ tp p, w.cell? ⟨8, 0, none⟩ = some (.iface tp p) := by
  obtain ⟨tp, p, h⟩ := h.rng
  exact ⟨tp, p, by rw [World.var?_cell gRng h 0]; rfl⟩

end Go.Proofs.YtpchlnikcdhklaaDoor
