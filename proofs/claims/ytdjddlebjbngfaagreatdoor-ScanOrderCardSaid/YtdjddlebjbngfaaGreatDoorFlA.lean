/-
  ROWS THAT LIE SO.
  THE DOCUMENT'S OWN Filter: are two filters the same?
  THE DOCUMENT'S OWN Same.
-/
import Derived.Test.YtdjddlebjbngfaaGreatDoorTrA
import Derived.Test.YtdjddlebjbngfaaGreatDoorWdA
import Derived.Deep.QuietTactic
import Derived.BigQuiet
import Derived.Deep.RegionWith
import Derived.Laws.StructEq
namespace Go.Proofs.YtdjddlebjbngfaaGreatDoor
open Go.RowKit Go

end Go.Proofs.YtdjddlebjbngfaaGreatDoor

namespace Go.Proofs.YtdjddlebjbngfaaGreatDoor
open Go.RowKit Go

end Go.Proofs.YtdjddlebjbngfaaGreatDoor

namespace Go.Proofs.YtdjddlebjbngfaaGreatDoor
open Go.RowKit Go

/-- A matcher. -/
structure Mt where
  name : ByteArray
  not : Bool
  value : ByteArray
deriving DecidableEq

/-- A query. -/
structure Qy where
  src : Int
  til : Int
  mat : List Mt
  fil : Ft
  desc : Bool
  lim : Int
  page : ByteArray

def Mt.val (m : Mt) : Value := .agg #[.string m.name, .bool m.not, .string m.value]

/-- v is a slice of matchers. -/
def MsAt (w : World) (v : Value) (l : List Mt) : Prop :=
  ∃ a cap, v = .slice a l.length cap ∧ l.length ≤ 9223372036854775807 ∧ (l = [] ∨ ∃ b off, a = some ⟨b, off, none⟩ ∧ b < w.heap.size ∧
    ∀ i (h : i < l.length), w.cell? ⟨b, off + i * 3, none⟩ = some (.string l[i].name) ∧ w.cell? ⟨b, off + i * 3 + 1, none⟩ = some (.bool l[i].not) ∧ w.cell? ⟨b, off + i * 3 + 2, none⟩ = some (.string l[i].value))

/-- A query's value. -/
def Qy.val (q : Qy) (mv kv : Value) : Value := .agg #[.int .i64 q.src, .int .i64 q.til, mv, .int .i64 q.fil.op, .string q.fil.name, .string q.fil.text, kv, .bool q.desc, .int .i64 q.lim, .string q.page]

end Go.Proofs.YtdjddlebjbngfaaGreatDoor
