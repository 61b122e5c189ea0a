/-
  PACKAGE parse: a parser's block, at, is, next, skip.
  PACKAGE parse: skip, must, take.
  PACKAGE parse: text, field.
  PACKAGE parse: number.
  PACKAGE parse: times, desc, limit, page, end.
-/
import Derived.Test.YtkckgjanfiiieaaGreatDoorBs7
import Derived.BigRegion
import Derived.Test.YtkckgjanfiiieaaGreatDoorPxA
namespace Go.Proofs.YtkckgjanfiiieaaGreatDoor
open Go.RowKit Go
open PX (tk isT)

/-- A parser's block: what isn't read yet of its tokens, and how deep. -/
structure PQS (P g c : Nat) (ts : List LX.Tok) (i deep : Nat) (w : World) : Prop where
  cb : CB w P 10048 #[.slice (some ⟨g, i * 4, none⟩) (ts.length - i) (c - i), .int .i64 (deep : Nat)]
  ne : g ≠ P
  gl : g < w.heap.size
  tok : ∀ j, j < ts.length * 4 → w.cell? ⟨g, j, none⟩ = (flatT ts)[j]?
  lt : i < ts.length
  cap : ts.length ≤ c
  low : deep ≤ 9

theorem PQS.keep {G : Nat → Prop} {P g c : Nat} {ts : List LX.Tok} {i deep : Nat} {w w' : World} (h : PQS P g c ts i deep w) (hk : Keep G w w') (h1 : ¬ G P) (h2 : ¬ G g) : PQS P g c ts i deep w' :=
  ⟨h.cb.keep hk h1, h.ne, Nat.lt_of_lt_of_le h.gl hk.size, fun j hj => (World.cell?_of_block (a := ⟨g, j, none⟩) (hk.block g h.gl h2)).trans (h.tok j hj), h.lt, h.cap, h.low⟩
theorem PQS.lay {P g c : Nat} {ts : List LX.Tok} {i deep : Nat} {w w' : World} (h : PQS P g c ts i deep w) (hl : Lay w w') : PQS P g c ts i deep w' := h.keep hl (fun h => h) (fun h => h)

theorem PQS.set {P g c : Nat} {ts : List LX.Tok} {i deep i' deep' : Nat} {w w' : World} (h : PQS P g c ts i deep w) (hc : CB w' P 10048 #[.slice (some ⟨g, i' * 4, none⟩) (ts.length - i') (c - i'), .int .i64 (deep' : Nat)]) (hk : Keep (fun k => k = P) w w') (hi : i' < ts.length) (hd : deep' ≤ 9) : PQS P g c ts i' deep' w' :=
  ⟨hc, h.ne, Nat.lt_of_lt_of_le h.gl hk.size, fun j hj => (World.cell?_of_block (a := ⟨g, j, none⟩) (hk.block g h.gl h.ne)).trans (h.tok j hj), hi, h.cap, hd⟩

/-- One token on. -/
theorem PQS.step {P g c : Nat} {ts : List LX.Tok} {i deep o n m : Nat} {w w' : World} (h : PQS P g c ts i deep w) (ho : o = i * 4) (hn : n + i = ts.length) (hm : m + i = c) (hi : i + 1 < ts.length)
    (hc : CB w' P 10048 #[.slice (some ⟨g, o + 4, none⟩) (n - 1) (m - 1), .int .i64 (deep : Nat)]) (hk : Keep (fun k => k = P) w w') : PQS P g c ts (i + 1) deep w' := by
  refine h.set ?_ hk hi h.low
  rw [show (i + 1) * 4 = o + 4 by omega, show ts.length - (i + 1) = n - 1 by omega, show c - (i + 1) = m - 1 by omega]
  exact hc

end Go.Proofs.YtkckgjanfiiieaaGreatDoor

namespace Go.Proofs.YtkckgjanfiiieaaGreatDoor
open Go.RowKit Go
open PX (tk isT)
end Go.Proofs.YtkckgjanfiiieaaGreatDoor

namespace Go.Proofs.YtkckgjanfiiieaaGreatDoor
open Go.RowKit Go
open PX (tk isT)

end Go.Proofs.YtkckgjanfiiieaaGreatDoor

namespace Go.Proofs.YtkckgjanfiiieaaGreatDoor
open Go.RowKit Go
open PX (tk isT)

end Go.Proofs.YtkckgjanfiiieaaGreatDoor

namespace Go.Proofs.YtkckgjanfiiieaaGreatDoor
open Go.RowKit Go
open PX (tk isT)

end Go.Proofs.YtkckgjanfiiieaaGreatDoor
