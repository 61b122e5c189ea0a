/-
  HOW A FILTER LIES: its kids in a row, theirs in rows of their own.
-/
import Derived.Test.YtjghomppmphkoaaGreatDoorTree0
import Derived.Test.YtjghomppmphkoaaGreatDoorRow
namespace Go.Proofs.YtjghomppmphkoaaGreatDoor
open Go.RowKit Go

/-- A filter's value, of its kids' slice. -/
def Ft.val (f : Ft) (kv : Value) : Value := .agg #[.int .i64 f.op, .string f.name, .string f.text, kv]

mutual
/-- kv is a slice of the filter's kids. -/
def KsAt (w : World) : Value → Ft → Prop
  | kv, .mk _ _ _ k => ∃ a cap, kv = .slice a k.length cap ∧ k.length ≤ 9223372036854775807 ∧ (k = [] ∨ ∃ b off, a = some ⟨b, off, none⟩ ∧ b < w.heap.size ∧ KAt w b off k)
/-- They lie one after the other. -/
def KAt (w : World) (b : Nat) : Nat → List Ft → Prop
  | _, [] => True
  | off, x :: r => (∃ kv, w.cell? ⟨b, off, none⟩ = some (.int .i64 x.op) ∧ w.cell? ⟨b, off + 1, none⟩ = some (.string x.name) ∧ w.cell? ⟨b, off + 2, none⟩ = some (.string x.text) ∧ w.cell? ⟨b, off + 3, none⟩ = some kv ∧ KsAt w kv x) ∧ KAt w b (off + 4) r
end

mutual
theorem KsAt.below {w w' : World} (hb : Below w.heap.size w w') : ∀ (kv : Value) (f : Ft), KsAt w kv f → KsAt w' kv f
  | kv, .mk _ _ _ k, h => by
    rw [KsAt] at h ⊢
    obtain ⟨a, cap, hv, hl, h | ⟨b, off, ha, hlt, hk⟩⟩ := h
    · exact ⟨a, cap, hv, hl, .inl h⟩
    · exact ⟨a, cap, hv, hl, .inr ⟨b, off, ha, Nat.lt_of_lt_of_le hlt hb.size, KAt.below hb b hlt off k hk⟩⟩
theorem KAt.below {w w' : World} (hb : Below w.heap.size w w') (b : Nat) (hlt : b < w.heap.size) : ∀ (off : Nat) (l : List Ft), KAt w b off l → KAt w' b off l
  | _, [], _ => by rw [KAt]; trivial
  | off, x :: r, h => by
    rw [KAt] at h ⊢
    obtain ⟨⟨kv, h0, h1, h2, h3, h4⟩, h5⟩ := h
    have e := hb.block b hlt
    exact ⟨⟨kv, (World.cell?_of_block (a := ⟨b, off, none⟩) e).trans h0, (World.cell?_of_block (a := ⟨b, off + 1, none⟩) e).trans h1, (World.cell?_of_block (a := ⟨b, off + 2, none⟩) e).trans h2, (World.cell?_of_block (a := ⟨b, off + 3, none⟩) e).trans h3, KsAt.below hb kv x h4⟩, KAt.below hb b hlt (off + 4) r h5⟩
end

theorem KAt.get {w : World} {b : Nat} : ∀ {off : Nat} {l : List Ft}, KAt w b off l → ∀ i (h : i < l.length), ∃ kv, w.cell? ⟨b, off + i * 4, none⟩ = some (.int .i64 l[i].op) ∧ w.cell? ⟨b, off + i * 4 + 1, none⟩ = some (.string l[i].name) ∧
    w.cell? ⟨b, off + i * 4 + 2, none⟩ = some (.string l[i].text) ∧ w.cell? ⟨b, off + i * 4 + 3, none⟩ = some kv ∧ KsAt w kv l[i]
  | _, [], _, i, h => by simp at h
  | off, x :: r, hk, i, h => by
    rw [KAt] at hk
    obtain ⟨⟨kv, h0⟩, h1⟩ := hk
    cases i with
    | zero => exact ⟨kv, by simpa using h0⟩
    | succ i =>
      have := KAt.get h1 i (by simpa using h)
      rw [show off + 4 + i * 4 = off + (i + 1) * 4 by omega] at this
      simpa using this

theorem KAt.of {w : World} {b : Nat} : ∀ {off : Nat} {l : List Ft}, (∀ i (h : i < l.length), ∃ kv, w.cell? ⟨b, off + i * 4, none⟩ = some (.int .i64 l[i].op) ∧ w.cell? ⟨b, off + i * 4 + 1, none⟩ = some (.string l[i].name) ∧
    w.cell? ⟨b, off + i * 4 + 2, none⟩ = some (.string l[i].text) ∧ w.cell? ⟨b, off + i * 4 + 3, none⟩ = some kv ∧ KsAt w kv l[i]) → KAt w b off l
  | _, [], _ => by rw [KAt]; trivial
  | off, x :: r, h => by
    rw [KAt]
    refine ⟨?_, KAt.of fun i hi => ?_⟩
    · have := h 0 (by simp)
      simpa using this
    · have := h (i + 1) (by simpa using hi)
      rw [show off + (i + 1) * 4 = off + 4 + i * 4 by omega] at this
      simpa using this

theorem KsAt.shape {w : World} {kv : Value} {f : Ft} (h : KsAt w kv f) : ∃ a c, kv = .slice a f.kids.length c := by
  cases f with
  | mk o n t k =>
    rw [KsAt] at h
    obtain ⟨a, c, rfl, _⟩ := h
    exact ⟨a, c, rfl⟩

/-- A value that is a filter. -/
def FAt (w : World) (v : Value) (f : Ft) : Prop := ∃ kv, v = f.val kv ∧ KsAt w kv f

theorem FAt.below {w w' : World} {v : Value} {f : Ft} (h : FAt w v f) (hb : Below w.heap.size w w') : FAt w' v f := by
  obtain ⟨kv, hv, h⟩ := h
  exact ⟨kv, hv, KsAt.below hb kv f h⟩

end Go.Proofs.YtjghomppmphkoaaGreatDoor
