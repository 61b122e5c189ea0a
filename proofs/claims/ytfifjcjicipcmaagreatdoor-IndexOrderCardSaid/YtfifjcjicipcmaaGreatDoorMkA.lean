/-
  A BLOCK OF FOUR CELLS (a filter that lies by itself).
  WHAT MAKING A FILTER LEAVES.
  THE DOCUMENT'S OWN Source: Make, of And and Or.
-/
import Derived.Test.YtfifjcjicipcmaaGreatDoorTrA
import Derived.Deep.RegionLaw
namespace Go.Proofs.YtfifjcjicipcmaaGreatDoor
open Go.RowKit Go

/-- A block of four cells. -/
structure Bx (W : World) (k : Nat) (u0 u1 u2 u3 : Value) : Prop where
  c0 : W.cell? ⟨k, 0, none⟩ = some u0
  c1 : W.cell? ⟨k, 1, none⟩ = some u1
  c2 : W.cell? ⟨k, 2, none⟩ = some u2
  c3 : W.cell? ⟨k, 3, none⟩ = some u3
  f0 : W.frozen? ⟨k, 0, none⟩ = false
  f1 : W.frozen? ⟨k, 1, none⟩ = false
  f2 : W.frozen? ⟨k, 2, none⟩ = false
  f3 : W.frozen? ⟨k, 3, none⟩ = false

theorem Bx.carry {W W' : World} {k : Nat} {u0 u1 u2 u3 : Value} (h : Bx W k u0 u1 u2 u3) (hb : W'.heap[k]? = W.heap[k]?) : Bx W' k u0 u1 u2 u3 :=
  ⟨(World.cell?_of_block (a := ⟨k, 0, none⟩) hb).trans h.c0, (World.cell?_of_block (a := ⟨k, 1, none⟩) hb).trans h.c1, (World.cell?_of_block (a := ⟨k, 2, none⟩) hb).trans h.c2, (World.cell?_of_block (a := ⟨k, 3, none⟩) hb).trans h.c3,
   (World.frozen?_of_block (a := ⟨k, 0, none⟩) hb).trans h.f0, (World.frozen?_of_block (a := ⟨k, 1, none⟩) hb).trans h.f1, (World.frozen?_of_block (a := ⟨k, 2, none⟩) hb).trans h.f2, (World.frozen?_of_block (a := ⟨k, 3, none⟩) hb).trans h.f3⟩

theorem Bx.set0 {W : World} {k : Nat} {u0 u1 u2 u3 : Value} (h : Bx W k u0 u1 u2 u3) (u : Value) : Bx (W.setCell ⟨k, 0, none⟩ u) k u u1 u2 u3 := by
  obtain ⟨c0, c1, c2, c3, f0, f1, f2, f3⟩ := h
  exact ⟨by go_simp, by go_simp, by go_simp, by go_simp, by go_simp, by go_simp, by go_simp, by go_simp⟩
theorem Bx.set1 {W : World} {k : Nat} {u0 u1 u2 u3 : Value} (h : Bx W k u0 u1 u2 u3) (u : Value) : Bx (W.setCell ⟨k, 1, none⟩ u) k u0 u u2 u3 := by
  obtain ⟨c0, c1, c2, c3, f0, f1, f2, f3⟩ := h
  exact ⟨by go_simp, by go_simp, by go_simp, by go_simp, by go_simp, by go_simp, by go_simp, by go_simp⟩
theorem Bx.set2 {W : World} {k : Nat} {u0 u1 u2 u3 : Value} (h : Bx W k u0 u1 u2 u3) (u : Value) : Bx (W.setCell ⟨k, 2, none⟩ u) k u0 u1 u u3 := by
  obtain ⟨c0, c1, c2, c3, f0, f1, f2, f3⟩ := h
  exact ⟨by go_simp, by go_simp, by go_simp, by go_simp, by go_simp, by go_simp, by go_simp, by go_simp⟩
theorem Bx.set3 {W : World} {k : Nat} {u0 u1 u2 u3 : Value} (h : Bx W k u0 u1 u2 u3) (u : Value) : Bx (W.setCell ⟨k, 3, none⟩ u) k u0 u1 u2 u := by
  obtain ⟨c0, c1, c2, c3, f0, f1, f2, f3⟩ := h
  exact ⟨by go_simp, by go_simp, by go_simp, by go_simp, by go_simp, by go_simp, by go_simp, by go_simp⟩

/-- A token that was stored there. -/
def stored (W : World) (k : Nat) (u0 u1 u2 u3 : Value) : World := (((W.setCell ⟨k, 0, none⟩ u0).setCell ⟨k, 1, none⟩ u1).setCell ⟨k, 2, none⟩ u2).setCell ⟨k, 3, none⟩ u3

theorem Bx.all {W : World} {k : Nat} {u0 u1 u2 u3 : Value} (h : Bx W k u0 u1 u2 u3) (v0 v1 v2 v3 : Value) : Bx (stored W k v0 v1 v2 v3) k v0 v1 v2 v3 :=
  (((h.set0 v0).set1 v1).set2 v2).set3 v3

end Go.Proofs.YtfifjcjicipcmaaGreatDoor

namespace Go.Proofs.YtfifjcjicipcmaaGreatDoor
open Go.RowKit Go

end Go.Proofs.YtfifjcjicipcmaaGreatDoor

namespace Go.Proofs.YtfifjcjicipcmaaGreatDoor
open Go.RowKit Go

end Go.Proofs.YtfifjcjicipcmaaGreatDoor
