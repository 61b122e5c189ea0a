/-
  A QUERY OF NUMBERS: no program in it.
-/
import Derived.Test.YtjghomppmphkoaaGreatDoorSame6
import Derived.Test.YtjghomppmphkoaaGreatDoorMakeC6
namespace Go.Proofs.YtjghomppmphkoaaGreatDoor
open Go.RowKit Go
namespace Qy

def keys : List ByteArray := [⟨#[97, 112, 112]⟩, ⟨#[101, 110, 118]⟩, ⟨#[122, 111, 110, 101]⟩]
def vals : List ByteArray := [⟨#[97]⟩, ⟨#[98]⟩, ⟨#[]⟩, ⟨#[120, 32, 121]⟩]

/-- A matcher of numbers. -/
def mat1 (l : List Int) (p : Nat) : Mt × Nat :=
  let a := Ft.next l 3 p
  let b := Ft.next l 3 a.2
  let c := Ft.next l 4 b.2
  (⟨keys.getD a.1 ⟨#[]⟩, decide (b.1 = 1), vals.getD c.1 ⟨#[]⟩⟩, c.2)

/-- So many matchers. -/
def mats (l : List Int) : Nat → Nat → List Mt × Nat
  | 0, p => ([], p)
  | k + 1, p => let x := mat1 l p; let r := mats l k x.2; (x.1 :: r.1, r.2)

/-- A query of numbers. -/
def query (l : List Int) : Qy :=
  let a := Ft.next l 20 0
  let b := Ft.next l 2 a.2
  let c := Ft.next l 8 b.2
  let d := Ft.next l 20 c.2
  let k := Ft.next l 3 d.2
  let m := mats l k.1 k.2
  let f := Ft.make l 3 m.2
  let z := Ft.next l 4 f.2
  ⟨(a.1 : Int) - 5, (a.1 : Int) - 5 + (d.1 : Int), m.1, if z.1 = 0 then .mk 1 ⟨#[]⟩ ⟨#[]⟩ [] else f.1, decide (b.1 = 1), 1 + (c.1 : Int), ⟨#[]⟩⟩

theorem mats_length (l : List Int) : ∀ (k p : Nat), (mats l k p).1.length = k
  | 0, _ => rfl
  | k + 1, p => by rw [mats, List.length_cons, mats_length l k]

theorem query_count (l : List Int) : (query l).fil.count ≤ 64 := by
  unfold query
  simp only
  split
  · decide
  · exact Ft.make_count l 3 _

end Qy

end Go.Proofs.YtjghomppmphkoaaGreatDoor
