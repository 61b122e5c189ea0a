/-
  A BLOCK OF FOUR CELLS (a filter that lies by itself).
  WHAT MAKING A FILTER LEAVES.
  THE DOCUMENT'S OWN Source: Make, of And and Or.
-/
import Derived.Test.YtmodiemmcdocdaaGreatDoorQTrA
import Derived.Deep.RegionLaw
namespace Go.Proofs.YtmodiemmcdocdaaGreatDoor
open Go.RowKit Go

/-- A block of four cells. -/
structure Bx (W : World) (k : Nat) (u0 u1 u2 u3 : Value) : Prop where
  c0 : W.cell? ⟨k, 0, none⟩ = some u0
  c1 : W.cell? ⟨k, 1, none⟩ = some u1
  c2 : W.cell? ⟨k, 2, none⟩ = some u2
  c3 : W.cell? ⟨k, 3, none⟩ = some u3
  f0 : W.frozen? ⟨k, 0, none⟩ = false
  f1 : W.frozen? ⟨k, 1, none⟩ = false
  f2 : W.frozen? ⟨k, 2, none⟩ = false
  f3 : W.frozen? ⟨k, 3, none⟩ = false

theorem Bx.carry {W W' : World} {k : Nat} {u0 u1 u2 u3 : Value} (h : Bx W k u0 u1 u2 u3) (hb : W'.heap[k]? = W.heap[k]?) : Bx W' k u0 u1 u2 u3 :=
  ⟨(World.cell?_of_block (a := ⟨k, 0, none⟩) hb).trans h.c0, (World.cell?_of_block (a := ⟨k, 1, none⟩) hb).trans h.c1, (World.cell?_of_block (a := ⟨k, 2, none⟩) hb).trans h.c2, (World.cell?_of_block (a := ⟨k, 3, none⟩) hb).trans h.c3,
   (World.frozen?_of_block (a := ⟨k, 0, none⟩) hb).trans h.f0, (World.frozen?_of_block (a := ⟨k, 1, none⟩) hb).trans h.f1, (World.frozen?_of_block (a := ⟨k, 2, none⟩) hb).trans h.f2, (World.frozen?_of_block (a := ⟨k, 3, none⟩) hb).trans h.f3⟩

theorem Bx.set0 {W : World} {k : Nat} {u0 u1 u2 u3 : Value} (h : Bx W k u0 u1 u2 u3) (u : Value) : Bx (W.setCell ⟨k, 0, none⟩ u) k u u1 u2 u3 := by
  obtain ⟨c0, c1, c2, c3, f0, f1, f2, f3⟩ := h
  exact ⟨by go_simp, by go_simp, by go_simp, by go_simp, by go_simp, by go_simp, by go_simp, by go_simp⟩
theorem Bx.set1 {W : World} {k : Nat} {u0 u1 u2 u3 : Value} (h : Bx W k u0 u1 u2 u3) (u : Value) : Bx (W.setCell ⟨k, 1, none⟩ u) k u0 u u2 u3 := by
  obtain ⟨c0, c1, c2, c3, f0, f1, f2, f3⟩ := h
  exact ⟨by go_simp, by go_simp, by go_simp, by go_simp, by go_simp, by go_simp, by go_simp, by go_simp⟩
theorem Bx.set2 {W : World} {k : Nat} {u0 u1 u2 u3 : Value} (h : Bx W k u0 u1 u2 u3) (u : Value) : Bx (W.setCell ⟨k, 2, none⟩ u) k u0 u1 u u3 := by
  obtain ⟨c0, c1, c2, c3, f0, f1, f2, f3⟩ := h
  exact ⟨by go_simp, by go_simp, by go_simp, by go_simp, by go_simp, by go_simp, by go_simp, by go_simp⟩
theorem Bx.set3 {W : World} {k : Nat} {u0 u1 u2 u3 : Value} (h : Bx W k u0 u1 u2 u3) (u : Value) : Bx (W.setCell ⟨k, 3, none⟩ u) k u0 u1 u2 u := by
  obtain ⟨c0, c1, c2, c3, f0, f1, f2, f3⟩ := h
  exact ⟨by go_simp, by go_simp, by go_simp, by go_simp, by go_simp, by go_simp, by go_simp, by go_simp⟩

/-- A token that was stored there. -/
def stored (W : World) (k : Nat) (u0 u1 u2 u3 : Value) : World := (((W.setCell ⟨k, 0, none⟩ u0).setCell ⟨k, 1, none⟩ u1).setCell ⟨k, 2, none⟩ u2).setCell ⟨k, 3, none⟩ u3

theorem Bx.all {W : World} {k : Nat} {u0 u1 u2 u3 : Value} (h : Bx W k u0 u1 u2 u3) (v0 v1 v2 v3 : Value) : Bx (stored W k v0 v1 v2 v3) k v0 v1 v2 v3 :=
  (((h.set0 v0).set1 v1).set2 v2).set3 v3

/-- A new filter. -/
def newF (w : World) : World := w.alloc (.cells #[.int .i64 0, .string ⟨#[]⟩, .string ⟨#[]⟩, .slice none 0 0] 26)

theorem newF_bx (w : World) : Bx (newF w) w.heap.size (.int .i64 0) (.string ⟨#[]⟩) (.string ⟨#[]⟩) (.slice none 0 0) := by
  unfold newF
  exact ⟨by go_simp, by go_simp, by go_simp, by go_simp, by go_simp, by go_simp, by go_simp, by go_simp⟩
theorem newF_lay (w : World) : Lay w (newF w) := (Keep.refl _ _).alloc _
theorem newF_size (w : World) : (newF w).heap.size = w.heap.size + 1 := by unfold newF; simp

theorem stored_other {W : World} {k b : Nat} (h : b ≠ k) (u0 u1 u2 u3 : Value) : (stored W k u0 u1 u2 u3).heap[b]? = W.heap[b]? :=
  (((Below.heap_setCell ((( W.setCell ⟨k, 0, none⟩ u0).setCell ⟨k, 1, none⟩ u1).setCell ⟨k, 2, none⟩ u2) ⟨k, 3, none⟩ u3 b h).trans (Below.heap_setCell ((W.setCell ⟨k, 0, none⟩ u0).setCell ⟨k, 1, none⟩ u1) ⟨k, 2, none⟩ u2 b h)).trans
    (Below.heap_setCell (W.setCell ⟨k, 0, none⟩ u0) ⟨k, 1, none⟩ u1 b h)).trans (Below.heap_setCell W ⟨k, 0, none⟩ u0 b h)

theorem stored_size {W : World} {k : Nat} (u0 u1 u2 u3 : Value) : (stored W k u0 u1 u2 u3).heap.size = W.heap.size := by simp [stored, World.setCell]

theorem keep_stored {G : Nat → Prop} {a W : World} (h : Keep G a W) {k : Nat} (hk : a.heap.size ≤ k) (u0 u1 u2 u3 : Value) : Keep G a (stored W k u0 u1 u2 u3) :=
  (((h.setCell (p := ⟨k, 0, none⟩) (.inl hk) u0).setCell (p := ⟨k, 1, none⟩) (.inl hk) u1).setCell (p := ⟨k, 2, none⟩) (.inl hk) u2).setCell (p := ⟨k, 3, none⟩) (.inl hk) u3

end Go.Proofs.YtmodiemmcdocdaaGreatDoor

namespace Go.Proofs.YtmodiemmcdocdaaGreatDoor
open Go.RowKit Go

/-- append, as one step of a region that draws, by what it is known to run to. -/
theorem step_append_run {P : Program} {ops : Array Oper} {o : Oper} {a : Act} {w w' : World} {K : Act → World → Prop} {Q : Exit → Act → World → Prop} {E : Prop} {sv xv v' : Value}
    (hg : o.guard = none) (s x : Operand) (t : TypeId) (hop : o.op = Op.call { callee := Callee.builtin Builtin.append, args := #[s, x], argTypes := #[t, t] })
    (hs : a.eval s = sv) (hx : a.eval x = xv) (hrun : (Builtin.append_ #[t, t] o.type #[sv, xv]).run P w = .ok v' w') (hK : K (a.put o.dst v') w') :
    if Region.wanted o (yielded ops a.tmps) = true then Oper.wp P o a w K Q else E := by
  have hw : Region.wanted o (yielded ops a.tmps) = true := by simp [Region.wanted, hg]
  rw [if_pos hw]
  unfold Oper.wp
  simp [execOp, hop, resolve, invoke, builtin, hs, hx, hrun, Result.andThen]
  exact hK

end Go.Proofs.YtmodiemmcdocdaaGreatDoor

namespace Go.Proofs.YtmodiemmcdocdaaGreatDoor
open Go.RowKit Go

theorem Keep.over {G H : Nat → Prop} {a W w' : World} (h : Keep G a W) (k : Keep H W w') (hH : ∀ b, H b → a.heap.size ≤ b) : Keep G a w' :=
  ⟨k.os.trans h.os, k.tape.trans h.tape, k.output.trans h.output, Nat.le_trans h.size k.size, Nat.le_trans h.drawn k.drawn, fun b hb hn => (k.block b (Nat.lt_of_lt_of_le hb h.size) (fun hh => by have := hH b hh; omega)).trans (h.block b hb hn)⟩

end Go.Proofs.YtmodiemmcdocdaaGreatDoor
