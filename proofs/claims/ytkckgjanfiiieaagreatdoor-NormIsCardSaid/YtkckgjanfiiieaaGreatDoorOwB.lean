/-
  PACKAGE lex: first.
  WHAT PACKAGE lex's CALLS ARE TO DO ('LexCalls': shown of the program elsewhere); what the document says of two texts.
  PACKAGE lex: Lex.
  A callee's contract in a region that draws its order.
-/
import Derived.Test.YtkckgjanfiiieaaGreatDoorOwA
import Derived.Test.YtkckgjanfiiieaaGreatDoorLxA
import Derived.Test.YtkckgjanfiiieaaGreatDoorTab
import Derived.Shelf.SlSortCmp.QuietGrown
namespace Go.Proofs.YtkckgjanfiiieaaGreatDoor.Own
open Go.RowKit Go

end Go.Proofs.YtkckgjanfiiieaaGreatDoor.Own

namespace Go.Proofs.YtkckgjanfiiieaaGreatDoor
open Go.RowKit Go

end Go.Proofs.YtkckgjanfiiieaaGreatDoor

namespace Go.Proofs.YtkckgjanfiiieaaGreatDoor.Own
open Go.RowKit Go

/-- A block of two cells. -/
structure B2 (W : World) (k : Nat) (u0 u1 : Value) : Prop where
  c0 : W.cell? ⟨k, 0, none⟩ = some u0
  c1 : W.cell? ⟨k, 1, none⟩ = some u1
  f0 : W.frozen? ⟨k, 0, none⟩ = false
  f1 : W.frozen? ⟨k, 1, none⟩ = false

theorem B2.carry {W W' : World} {k : Nat} {u0 u1 : Value} (h : B2 W k u0 u1) (hb : W'.heap[k]? = W.heap[k]?) : B2 W' k u0 u1 :=
  ⟨(World.cell?_of_block (a := ⟨k, 0, none⟩) hb).trans h.c0, (World.cell?_of_block (a := ⟨k, 1, none⟩) hb).trans h.c1, (World.frozen?_of_block (a := ⟨k, 0, none⟩) hb).trans h.f0, (World.frozen?_of_block (a := ⟨k, 1, none⟩) hb).trans h.f1⟩

theorem B2.all {W : World} {k : Nat} {u0 u1 : Value} (h : B2 W k u0 u1) (v0 v1 : Value) : B2 ((W.setCell ⟨k, 0, none⟩ v0).setCell ⟨k, 1, none⟩ v1) k v0 v1 := by
  obtain ⟨c0, c1, f0, f1⟩ := h
  exact ⟨by go_simp, by go_simp, by go_simp, by go_simp⟩

end Go.Proofs.YtkckgjanfiiieaaGreatDoor.Own

namespace Go.Proofs.YtkckgjanfiiieaaGreatDoor
open Go.RowKit Go

end Go.Proofs.YtkckgjanfiiieaaGreatDoor
