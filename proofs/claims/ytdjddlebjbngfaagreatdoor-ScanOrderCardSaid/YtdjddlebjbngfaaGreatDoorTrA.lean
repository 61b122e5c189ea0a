/-
  FILTERS, AS TREES: no program in it.
  HOW A FILTER LIES: its kids in a row, theirs in rows of their own.
  THE DOCUMENT'S OWN Rows.
  FILTERS MADE OF NUMBERS: no program in it.
  THE DOCUMENT'S OWN Source: Next, Text.
  FILTERS THAT LIE IN BLOCKS OF THEIR OWN, and what a Source makes, case by case.
-/
import Derived.Test.YtdjddlebjbngfaaGreatDoorWdA
import Derived.OwnWalk
namespace Go.Proofs.YtdjddlebjbngfaaGreatDoor
open Go MW

/-- A filter: its kind, its texts, its kids. -/
inductive Ft where
  | mk (op : Int) (name text : ByteArray) (kids : List Ft)

namespace Ft
def op : Ft → Int | mk o _ _ _ => o
def name : Ft → ByteArray | mk _ n _ _ => n
def text : Ft → ByteArray | mk _ _ t _ => t
def kids : Ft → List Ft | mk _ _ _ k => k

/-- A filter without its kids. -/
structure Row where
  op : Int
  name : ByteArray
  text : ByteArray
  kids : Nat
  deep : Nat

mutual
/-- A filter, and all within it. -/
def rows : Nat → Ft → List Row
  | d, mk o n t k => ⟨o, n, t, k.length, d⟩ :: rowsOf (d + 1) k
def rowsOf : Nat → List Ft → List Row
  | _, [] => []
  | d, x :: r => rows d x ++ rowsOf d r
end

/-! ### Which can be -/

end Ft
end Go.Proofs.YtdjddlebjbngfaaGreatDoor

namespace Go.Proofs.YtdjddlebjbngfaaGreatDoor
open Go.RowKit Go

/-- A filter's value, of its kids' slice. -/
def Ft.val (f : Ft) (kv : Value) : Value := .agg #[.int .i64 f.op, .string f.name, .string f.text, kv]

mutual
/-- kv is a slice of the filter's kids. -/
def KsAt (w : World) : Value → Ft → Prop
  | kv, .mk _ _ _ k => ∃ a cap, kv = .slice a k.length cap ∧ k.length ≤ 9223372036854775807 ∧ (k = [] ∨ ∃ b off, a = some ⟨b, off, none⟩ ∧ b < w.heap.size ∧ KAt w b off k)
/-- They lie one after the other. -/
def KAt (w : World) (b : Nat) : Nat → List Ft → Prop
  | _, [] => True
  | off, x :: r => (∃ kv, w.cell? ⟨b, off, none⟩ = some (.int .i64 x.op) ∧ w.cell? ⟨b, off + 1, none⟩ = some (.string x.name) ∧ w.cell? ⟨b, off + 2, none⟩ = some (.string x.text) ∧ w.cell? ⟨b, off + 3, none⟩ = some kv ∧ KsAt w kv x) ∧ KAt w b (off + 4) r
end

theorem KAt.of {w : World} {b : Nat} : ∀ {off : Nat} {l : List Ft}, (∀ i (h : i < l.length), ∃ kv, w.cell? ⟨b, off + i * 4, none⟩ = some (.int .i64 l[i].op) ∧ w.cell? ⟨b, off + i * 4 + 1, none⟩ = some (.string l[i].name) ∧
    w.cell? ⟨b, off + i * 4 + 2, none⟩ = some (.string l[i].text) ∧ w.cell? ⟨b, off + i * 4 + 3, none⟩ = some kv ∧ KsAt w kv l[i]) → KAt w b off l
  | _, [], _ => by rw [KAt]; trivial
  | off, x :: r, h => by
    rw [KAt]
    refine ⟨?_, KAt.of fun i hi => ?_⟩
    · have := h 0 (by simp)
      simpa using this
    · have := h (i + 1) (by simpa using hi)
      rw [show off + (i + 1) * 4 = off + 4 + i * 4 by omega] at this
      simpa using this

end Go.Proofs.YtdjddlebjbngfaaGreatDoor

namespace Go.Proofs.YtdjddlebjbngfaaGreatDoor
open Go.RowKit Go

end Go.Proofs.YtdjddlebjbngfaaGreatDoor

namespace Go.Proofs.YtdjddlebjbngfaaGreatDoor
open Go MW
namespace Ft

def texts : List ByteArray := [⟨#[103, 101, 116]⟩, ⟨#[101, 114, 114]⟩, ⟨#[97]⟩, ⟨#[98]⟩, ⟨#[111, 107, 32, 50, 48, 48]⟩, ⟨#[120, 45, 121]⟩, ⟨#[32, 97, 32]⟩, ⟨#[]⟩, ⟨#[195, 169]⟩, ⟨#[107, 61, 103, 101, 116]⟩, ⟨#[97, 34, 98]⟩, ⟨#[105, 100, 95, 55]⟩]
end Ft
end Go.Proofs.YtdjddlebjbngfaaGreatDoor

namespace Go.Proofs.YtdjddlebjbngfaaGreatDoor
open Go.RowKit Go

/-- Numbers that lie so. -/
def IntsAt (w : World) (v : Value) (l : List Int) : Prop :=
  ∃ a cap, v = .slice a l.length cap ∧ l.length ≤ 9223372036854775807 ∧ (l = [] ∨ ∃ b off, a = some ⟨b, off, none⟩ ∧ b < w.heap.size ∧ ∀ i (h : i < l.length), w.cell? ⟨b, off + i, none⟩ = some (.int .i64 l[i]))

/-- A source of numbers: which, and how many are used up; what it reads lies elsewhere. -/
structure Srcs (w : World) (g : Nat) (v : Value) (l : List Int) (p : Nat) : Prop where
  lt : g < w.heap.size
  c0 : w.cell? ⟨g, 0, none⟩ = some v
  c1 : w.cell? ⟨g, 1, none⟩ = some (.int .i64 (p : Nat))
  f1 : w.frozen? ⟨g, 1, none⟩ = false
  ints : IntsAt w v l
  off : l ≠ [] → ∀ b off n c, v = .slice (some ⟨b, off, none⟩) n c → b ≠ g
  le : p ≤ l.length

end Go.Proofs.YtdjddlebjbngfaaGreatDoor

namespace Go.Proofs.YtdjddlebjbngfaaGreatDoor
open Go.RowKit Go

mutual
/-- kv is a slice of the filter's kids; all rows lie in blocks of G. -/
def KsB (G : Nat → Prop) (w : World) : Value → Ft → Prop
  | kv, .mk _ _ _ k => ∃ a cap, kv = .slice a k.length cap ∧ k.length ≤ 9223372036854775807 ∧ (k = [] ∨ ∃ b off, a = some ⟨b, off, none⟩ ∧ G b ∧ b < w.heap.size ∧ KbAt G w b off k)
/-- They lie one after the other. -/
def KbAt (G : Nat → Prop) (w : World) (b : Nat) : Nat → List Ft → Prop
  | _, [] => True
  | off, x :: r => (∃ kv, w.cell? ⟨b, off, none⟩ = some (.int .i64 x.op) ∧ w.cell? ⟨b, off + 1, none⟩ = some (.string x.name) ∧ w.cell? ⟨b, off + 2, none⟩ = some (.string x.text) ∧ w.cell? ⟨b, off + 3, none⟩ = some kv ∧ KsB G w kv x) ∧ KbAt G w b (off + 4) r
end

mutual
theorem KsB.mono {G G' : Nat → Prop} {w : World} (h' : ∀ b, b < w.heap.size → G b → G' b) : ∀ (kv : Value) (f : Ft), KsB G w kv f → KsB G' w kv f
  | kv, .mk _ _ _ k, h => by
    rw [KsB] at h ⊢
    obtain ⟨a, cap, hv, hl, h | ⟨b, off, ha, hB, hlt, hk⟩⟩ := h
    · exact ⟨a, cap, hv, hl, .inl h⟩
    · exact ⟨a, cap, hv, hl, .inr ⟨b, off, ha, h' b hlt hB, hlt, KbAt.mono h' b off k hk⟩⟩
theorem KbAt.mono {G G' : Nat → Prop} {w : World} (h' : ∀ b, b < w.heap.size → G b → G' b) (b : Nat) : ∀ (off : Nat) (l : List Ft), KbAt G w b off l → KbAt G' w b off l
  | _, [], _ => by rw [KbAt]; trivial
  | off, x :: r, h => by
    rw [KbAt] at h ⊢
    obtain ⟨⟨kv, h0, h1, h2, h3, h4⟩, h5⟩ := h
    exact ⟨⟨kv, h0, h1, h2, h3, KsB.mono h' kv x h4⟩, KbAt.mono h' b (off + 4) r h5⟩
end

mutual
theorem KsB.at {G : Nat → Prop} {w : World} : ∀ (kv : Value) (f : Ft), KsB G w kv f → KsAt w kv f
  | kv, .mk _ _ _ k, h => by
    rw [KsB] at h
    rw [KsAt]
    obtain ⟨a, cap, hv, hl, h | ⟨b, off, ha, hB, hlt, hk⟩⟩ := h
    · exact ⟨a, cap, hv, hl, .inl h⟩
    · exact ⟨a, cap, hv, hl, .inr ⟨b, off, ha, hlt, KbAt.at b off k hk⟩⟩
theorem KbAt.at {G : Nat → Prop} {w : World} (b : Nat) : ∀ (off : Nat) (l : List Ft), KbAt G w b off l → KAt w b off l
  | _, [], _ => by rw [KAt]; trivial
  | off, x :: r, h => by
    rw [KbAt] at h
    rw [KAt]
    obtain ⟨⟨kv, h0, h1, h2, h3, h4⟩, h5⟩ := h
    exact ⟨⟨kv, h0, h1, h2, h3, KsB.at kv x h4⟩, KbAt.at b (off + 4) r h5⟩
end

/-! ### What is made, case by case -/
namespace Ft

end Ft

theorem Srcs.carry {w w' : World} {g : Nat} {v : Value} {l : List Int} {p : Nat} (h : Srcs w g v l p) (hs : w.heap.size ≤ w'.heap.size) (hg : w'.heap[g]? = w.heap[g]?) (hi : ∀ b off n c, v = .slice (some ⟨b, off, none⟩) n c → l ≠ [] → w'.heap[b]? = w.heap[b]?) : Srcs w' g v l p where
  lt := Nat.lt_of_lt_of_le h.lt hs
  c0 := (World.cell?_of_block (a := ⟨g, 0, none⟩) hg).trans h.c0
  c1 := (World.cell?_of_block (a := ⟨g, 1, none⟩) hg).trans h.c1
  f1 := (World.frozen?_of_block (a := ⟨g, 1, none⟩) hg).trans h.f1
  ints := by
    obtain ⟨a, cap, hv, hl, h0 | ⟨b, off, ha, hlt, hc⟩⟩ := h.ints
    · exact ⟨a, cap, hv, hl, .inl h0⟩
    · refine ⟨a, cap, hv, hl, ?_⟩
      by_cases h0 : l = []
      · exact .inl h0
      · exact .inr ⟨b, off, ha, Nat.lt_of_lt_of_le hlt hs, fun i hi' => (World.cell?_of_block (a := ⟨b, off + i, none⟩) (hi b off _ _ (by rw [hv, ha]) h0)).trans (hc i hi')⟩
  off := h.off
  le := h.le

end Go.Proofs.YtdjddlebjbngfaaGreatDoor
