/-
  WHAT IS GONE OVER OF A FILTER: itself, and all within it, each with how deep it stands: no program in it.
-/
import Derived.Test.YtgmahdeaggjjgaaMade6
namespace Go.Proofs.Ytgmahdeaggjjgaa
open Go.RowKit Go

namespace Ft
mutual
def nodes : Nat → Ft → List (Ft × Nat)
  | d, mk o n t k => (mk o n t k, d) :: nodesOf (d + 1) k
def nodesOf : Nat → List Ft → List (Ft × Nat)
  | _, [] => []
  | d, x :: r => nodes d x ++ nodesOf d r
end

def toRow (p : Ft × Nat) : Row := ⟨p.1.op, p.1.name, p.1.text, p.1.kids.length, p.2⟩

mutual
theorem nodes_rows : ∀ (d : Nat) (f : Ft), (nodes d f).map toRow = rows d f
  | d, mk o n t k => by rw [nodes, rows, List.map_cons, nodesOf_rows (d + 1) k]; rfl
theorem nodesOf_rows : ∀ (d : Nat) (l : List Ft), (nodesOf d l).map toRow = rowsOf d l
  | _, [] => rfl
  | d, x :: r => by rw [nodesOf, rowsOf, List.map_append, nodes_rows d x, nodesOf_rows d r]
end

theorem nodes_length (d : Nat) (f : Ft) : (nodes d f).length = count f := by
  rw [← rows_length d f, ← nodes_rows, List.length_map]

theorem nodesOf_snoc (d : Nat) : ∀ (l : List Ft) (x : Ft), nodesOf d (l ++ [x]) = nodesOf d l ++ nodes d x
  | [], x => by simp [nodesOf]
  | y :: r, x => by rw [List.cons_append, nodesOf, nodesOf, nodesOf_snoc d r x, List.append_assoc]

theorem nodesOf_append (d : Nat) : ∀ (l r : List Ft), nodesOf d (l ++ r) = nodesOf d l ++ nodesOf d r
  | [], r => rfl
  | y :: l, r => by rw [List.cons_append, nodesOf, nodesOf, nodesOf_append d l r, List.append_assoc]

theorem nodesOf_take (d : Nat) (l : List Ft) (i : Nat) (h : i < l.length) : nodesOf d (l.take (i + 1)) = nodesOf d (l.take i) ++ nodes d l[i] := by
  rw [List.take_succ_eq_append_getElem h, nodesOf_snoc]

theorem nodesOf_drop (d : Nat) (l : List Ft) (i : Nat) (h : i < l.length) : nodesOf d (l.drop i) = nodes d l[i] ++ nodesOf d (l.drop (i + 1)) := by
  rw [List.drop_eq_getElem_cons h, nodesOf]

end Ft

theorem KbAt.get {G : Nat → Prop} {w : World} {b : Nat} : ∀ {off : Nat} {l : List Ft}, KbAt G w b off l → ∀ i (h : i < l.length), ∃ kv, w.cell? ⟨b, off + i * 4, none⟩ = some (.int .i64 l[i].op) ∧ w.cell? ⟨b, off + i * 4 + 1, none⟩ = some (.string l[i].name) ∧
    w.cell? ⟨b, off + i * 4 + 2, none⟩ = some (.string l[i].text) ∧ w.cell? ⟨b, off + i * 4 + 3, none⟩ = some kv ∧ KsB G w kv l[i]
  | _, [], _, i, h => by simp at h
  | off, x :: r, hk, i, h => by
    rw [KbAt] at hk
    obtain ⟨⟨kv, h0⟩, h1⟩ := hk
    cases i with
    | zero => exact ⟨kv, by simpa using h0⟩
    | succ i =>
      have := KbAt.get h1 i (by simpa using h)
      rw [show off + 4 + i * 4 = off + (i + 1) * 4 by omega] at this
      simpa using this

mutual
/-- What lies, lies in some blocks: in those that are there. -/
theorem KsB.of_at {w : World} : ∀ (kv : Value) (f : Ft), KsAt w kv f → KsB (fun b => b < w.heap.size) w kv f
  | kv, .mk _ _ _ k, h => by
    rw [KsAt] at h
    rw [KsB]
    obtain ⟨a, cap, hv, hl, h | ⟨b, off, ha, hlt, hk⟩⟩ := h
    · exact ⟨a, cap, hv, hl, .inl h⟩
    · exact ⟨a, cap, hv, hl, .inr ⟨b, off, ha, hlt, hlt, KbAt.of_at b off k hk⟩⟩
theorem KbAt.of_at {w : World} (b : Nat) : ∀ (off : Nat) (l : List Ft), KAt w b off l → KbAt (fun b => b < w.heap.size) w b off l
  | _, [], _ => by rw [KbAt]; trivial
  | off, x :: r, h => by
    rw [KAt] at h
    rw [KbAt]
    obtain ⟨⟨kv, h0, h1, h2, h3, h4⟩, h5⟩ := h
    exact ⟨⟨kv, h0, h1, h2, h3, KsB.of_at kv x h4⟩, KbAt.of_at b (off + 4) r h5⟩
end

theorem KsB.shape {G : Nat → Prop} {w : World} {kv : Value} {f : Ft} (h : KsB G w kv f) : ∃ a c, kv = .slice a f.kids.length c := (KsB.at _ _ h).shape

end Go.Proofs.Ytgmahdeaggjjgaa
