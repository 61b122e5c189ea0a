/-
  THE DOCUMENT'S OWN Query: its blocks, its matchers.
-/
import Derived.Test.YtfifjcjicipcmaaGreatDoorFlA
import Derived.Test.YtfifjcjicipcmaaGreatDoorTrA
import Derived.OrdersIn
import Derived.WalkKit
import Derived.Test.YtfifjcjicipcmaaGreatDoorMkA
import Derived.Deep.RegionWith
import Derived.OwnWalkIn
import Derived.TacticsInMore
import Derived.LoopNIn
import Derived.LoopIn
import Derived.RangeFuncLeaves
import Derived.RangeFuncCalls
namespace Go.Proofs.YtfifjcjicipcmaaGreatDoor
open Go.RowKit Go

/-- A block of such cells. -/
def CB (W : World) (B : Nat) (t : TypeId) (arr : Array Value) : Prop := W.heap[B]? = some (.cells arr t (0, 0))
theorem CB.lt {W : World} {B : Nat} {t : TypeId} {arr : Array Value} (h : CB W B t arr) : B < W.heap.size := (Array.getElem?_eq_some_iff.1 h).1
theorem CB.cell {W : World} {B : Nat} {t : TypeId} {arr : Array Value} (h : CB W B t arr) (i : Nat) : W.cell? ⟨B, i, none⟩ = arr[i]? := by simp [World.cell?, show W.heap[B]? = _ from h]
theorem CB.new (W : World) (t : TypeId) (arr : Array Value) : CB (W.alloc (.cells arr t)) W.heap.size t arr := World.alloc_heap_new W _
theorem CB.keep {G : Nat → Prop} {W W' : World} {B : Nat} {t : TypeId} {arr : Array Value} (h : CB W B t arr) (hk : Keep G W W') (hn : ¬ G B) : CB W' B t arr := (hk.block B h.lt hn).trans h
namespace Qy
end Qy

/-! ### One matcher more -/

section
variable {g Q B0 : Nat} {v : Value} {l : List Int} {p p1 p2 p3 n : Nat} {mv : Value} {pre : List Mt} {m : Mt} {W0 : World} {listed : Array Bool} {ys : Nat → Value} {w : World}

end

/-- A row of texts that was written out. -/
def Lits (B0 : Nat) (L : List ByteArray) (x : Value) (w : World) : Prop := ∃ b, x = .slice (some ⟨b, 0, none⟩) L.length L.length ∧ B0 ≤ b ∧ b < w.heap.size ∧ ∀ i (h : i < L.length), w.cell? ⟨b, i, none⟩ = some (.string L[i])
/-- One of them. -/
def LitAt (B0 : Nat) (s : ByteArray) (x : Value) (w : World) : Prop := ∃ b i, x = .pointer (some ⟨b, i, none⟩) ∧ B0 ≤ b ∧ b < w.heap.size ∧ w.cell? ⟨b, i, none⟩ = some (.string s)

theorem Lits.keep {B0 : Nat} {L : List ByteArray} {x : Value} {w w' : World} (h : Lits B0 L x w) (hk : Keep (fun k => k < B0) w w') : Lits B0 L x w' := by
  obtain ⟨b, hx, h1, h2, h3⟩ := h
  exact ⟨b, hx, h1, Nat.lt_of_lt_of_le h2 hk.size, fun i hi => (World.cell?_of_block (a := ⟨b, i, none⟩) (hk.block b h2 (by omega))).trans (h3 i hi)⟩
theorem LitAt.keep {B0 : Nat} {s : ByteArray} {x : Value} {w w' : World} (h : LitAt B0 s x w) (hk : Keep (fun k => k < B0) w w') : LitAt B0 s x w' := by
  obtain ⟨b, i, hx, h1, h2, h3⟩ := h
  exact ⟨b, i, hx, h1, Nat.lt_of_lt_of_le h2 hk.size, (World.cell?_of_block (a := ⟨b, i, none⟩) (hk.block b h2 (by omega))).trans h3⟩
theorem Lits.new (w : World) (B0 : Nat) (hB : B0 ≤ w.heap.size) (L : List ByteArray) (t : TypeId) : Lits B0 L (.slice (some ⟨w.heap.size, 0, none⟩) L.length L.length) (w.alloc (.cells (L.map Value.string).toArray t)) := by
  refine ⟨w.heap.size, rfl, hB, by simp, fun i hi => ?_⟩
  rw [World.cell?_alloc_new, List.getElem?_toArray, List.getElem?_map, List.getElem?_eq_getElem hi]
  rfl

end Go.Proofs.YtfifjcjicipcmaaGreatDoor
