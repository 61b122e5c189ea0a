/-
  FILTERS, AS TREES: no program in it.
-/
import Derived.Test.YtjghomppmphkoaaGreatDoorWords
namespace Go.Proofs.YtjghomppmphkoaaGreatDoor
open Go MW

/-- A filter: its kind, its texts, its kids. -/
inductive Ft where
  | mk (op : Int) (name text : ByteArray) (kids : List Ft)

namespace Ft
def op : Ft → Int | mk o _ _ _ => o
def name : Ft → ByteArray | mk _ n _ _ => n
def text : Ft → ByteArray | mk _ _ t _ => t
def kids : Ft → List Ft | mk _ _ _ k => k

mutual
/-- How many there are. -/
def count : Ft → Nat
  | mk _ _ _ k => 1 + counts k
def counts : List Ft → Nat
  | [] => 0
  | x :: r => count x + counts r
end

/-- A filter without its kids. -/
structure Row where
  op : Int
  name : ByteArray
  text : ByteArray
  kids : Nat
  deep : Nat

mutual
/-- A filter, and all within it. -/
def rows : Nat → Ft → List Row
  | d, mk o n t k => ⟨o, n, t, k.length, d⟩ :: rowsOf (d + 1) k
def rowsOf : Nat → List Ft → List Row
  | _, [] => []
  | d, x :: r => rows d x ++ rowsOf d r
end

mutual
theorem rows_length : ∀ (d : Nat) (f : Ft), (rows d f).length = count f
  | d, mk o n t k => by rw [rows, count, List.length_cons, rowsOf_length (d + 1) k]; omega
theorem rowsOf_length : ∀ (d : Nat) (l : List Ft), (rowsOf d l).length = counts l
  | _, [] => rfl
  | d, x :: r => by rw [rowsOf, counts, List.length_append, rows_length d x, rowsOf_length d r]
end

/-- The rest of what is read of rows: one filter of so many kids is read off. -/
theorem rows_cons (d : Nat) (f : Ft) : ∃ r, rows d f = ⟨f.op, f.name, f.text, f.kids.length, d⟩ :: r ∧ r = rowsOf (d + 1) f.kids := by
  cases f with
  | mk o n t k => exact ⟨_, by rw [rows]; rfl, rfl⟩

mutual
/-- ROWS TELL THE FILTER: whatever goes on behind. -/
theorem rows_inj : ∀ (d : Nat) (f g : Ft) (p q : List Row), rows d f ++ p = rows d g ++ q → f = g ∧ p = q
  | d, mk o n t k, mk o' n' t' k', p, q, h => by
    rw [rows, rows, List.cons_append, List.cons_append, List.cons.injEq] at h
    obtain ⟨h1, h2⟩ := h
    simp only [Row.mk.injEq] at h1
    obtain ⟨rfl, rfl, rfl, hl, _⟩ := h1
    obtain ⟨h3, h4⟩ := rowsOf_inj (d + 1) k k' p q hl h2
    exact ⟨by rw [h3], h4⟩
theorem rowsOf_inj : ∀ (d : Nat) (k k' : List Ft) (p q : List Row), k.length = k'.length → rowsOf d k ++ p = rowsOf d k' ++ q → k = k' ∧ p = q
  | _, [], [], _, _, _, h => ⟨rfl, by simpa [rowsOf] using h⟩
  | _, [], _ :: _, _, _, hl, _ => by simp at hl
  | _, _ :: _, [], _, _, hl, _ => by simp at hl
  | d, x :: r, y :: s, p, q, hl, h => by
    rw [rowsOf, rowsOf, List.append_assoc, List.append_assoc] at h
    obtain ⟨h1, h2⟩ := rows_inj d x y _ _ h
    obtain ⟨h3, h4⟩ := rowsOf_inj d r s p q (by simpa using hl) h2
    exact ⟨by rw [h1, h3], h4⟩
end

/-- Two filters are the same just if their rows are. -/
theorem rows_eq (d : Nat) (f g : Ft) : rows d f = rows d g ↔ f = g :=
  ⟨fun h => (rows_inj d f g [] [] (by rw [h])).1, fun h => by rw [h]⟩

/-! ### Which can be -/

def kidsOK (op : Int) (n : Nat) : Bool :=
  if op = 6 then decide (n = 1) else if op = 7 ∨ op = 8 then decide (2 ≤ n) else decide (n = 0)

def rowOK (r : Row) : Bool :=
  decide (1 ≤ r.op ∧ r.op ≤ 8) && decide (r.deep ≤ 18) && kidsOK r.op r.kids &&
  (if r.op = 5 then MW.name r.name.data.toList else decide (r.name = ⟨#[]⟩)) &&
  (decide (r.text = ⟨#[]⟩) || decide (3 ≤ r.op ∧ r.op ≤ 5))

/-- Can it be? -/
def good (f : Ft) : Bool := (rows 0 f).all rowOK

def Row.down (k : Nat) (r : Row) : Row := { r with deep := r.deep + k }

mutual
theorem rows_down (k : Nat) : ∀ (d : Nat) (f : Ft), rows (d + k) f = (rows d f).map (Row.down k)
  | d, mk o n t l => by
    rw [rows, rows, List.map_cons, show d + k + 1 = d + 1 + k by omega, rowsOf_down k (d + 1) l]
    rfl
theorem rowsOf_down (k : Nat) : ∀ (d : Nat) (l : List Ft), rowsOf (d + k) l = (rowsOf d l).map (Row.down k)
  | _, [] => rfl
  | d, x :: r => by rw [rowsOf, rowsOf, List.map_append, rows_down k d x, rowsOf_down k d r]
end

end Ft
end Go.Proofs.YtjghomppmphkoaaGreatDoor
