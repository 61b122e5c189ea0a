/-
  NOTS AROUND A FILTER: no program in it.
-/
import Derived.Test.YtgmahdeaggjjgaaMakeC6
namespace Go.Proofs.Ytgmahdeaggjjgaa
open Go
namespace Ft

def deepest : List Row → Nat
  | [] => 0
  | r :: l => max r.deep (deepest l)

theorem deepest_append : ∀ a b : List Row, deepest (a ++ b) = max (deepest a) (deepest b)
  | [], b => by simp [deepest]
  | r :: a, b => by
    rw [List.cons_append, deepest, deepest, deepest_append a b]
    omega

theorem deepest_down (k : Nat) : ∀ l : List Row, l ≠ [] → deepest (l.map (Row.down k)) = deepest l + k
  | [], h => absurd rfl h
  | [r], _ => by simp [deepest, Row.down]
  | r :: s :: l, _ => by
    have := deepest_down k (s :: l) (by simp)
    show max (r.deep + k) (deepest ((s :: l).map (Row.down k))) = max r.deep (deepest (s :: l)) + k
    rw [this]
    omega

theorem deepest_take (l : List Row) (i : Nat) (h : i < l.length) : deepest (l.take (i + 1)) = max (deepest (l.take i)) l[i].deep := by
  rw [List.take_succ_eq_append_getElem h, deepest_append]
  simp [deepest]

/-- Could a row be, but for its depth? -/
def shapeOK (r : Row) : Bool :=
  decide (1 ≤ r.op ∧ r.op ≤ 8) && kidsOK r.op r.kids && (if r.op = 5 then MW.name r.name.data.toList else decide (r.name = ⟨#[]⟩)) && (decide (r.text = ⟨#[]⟩) || decide (3 ≤ r.op ∧ r.op ≤ 5))

theorem rowOK_iff (r : Row) : rowOK r = true ↔ shapeOK r = true ∧ r.deep ≤ 18 := by
  unfold rowOK shapeOK
  simp only [Bool.and_eq_true, decide_eq_true_eq]
  constructor
  · intro h; exact ⟨⟨⟨⟨h.1.1.1.1, h.1.1.2⟩, h.1.2⟩, h.2⟩, h.1.1.1.2⟩
  · intro h; exact ⟨⟨⟨⟨h.1.1.1.1, h.2⟩, h.1.1.1.2⟩, h.1.1.2⟩, h.1.2⟩

theorem deepest_le (n : Nat) : ∀ l : List Row, deepest l ≤ n ↔ ∀ r ∈ l, r.deep ≤ n
  | [] => by simp [deepest]
  | r :: l => by
    rw [deepest, Nat.max_le, deepest_le n l]
    simp

theorem good_iff (f : Ft) : good f = true ↔ (∀ r ∈ rows 0 f, shapeOK r = true) ∧ deepest (rows 0 f) ≤ 18 := by
  unfold good
  rw [List.all_eq_true, deepest_le]
  constructor
  · intro h; exact ⟨fun r hr => ((rowOK_iff r).1 (h r hr)).1, fun r hr => ((rowOK_iff r).1 (h r hr)).2⟩
  · intro h r hr; exact (rowOK_iff r).2 ⟨h.1 r hr, h.2 r hr⟩

/-- So many nots around it. -/
def nots : Nat → Ft → Ft
  | 0, f => f
  | n + 1, f => mk 6 ⟨#[]⟩ ⟨#[]⟩ [nots n f]

theorem nots_count (n : Nat) (f : Ft) : (nots n f).count = f.count + n := by
  induction n with
  | zero => rfl
  | succ n ih => rw [nots, count, counts, counts, ih]; omega

theorem rows_ne (d : Nat) (f : Ft) : rows d f ≠ [] := by
  cases f with
  | mk o n t k => rw [rows]; simp

theorem rows_not (f : Ft) : rows 0 (mk 6 ⟨#[]⟩ ⟨#[]⟩ [f]) = ⟨6, ⟨#[]⟩, ⟨#[]⟩, 1, 0⟩ :: (rows 0 f).map (Row.down 1) := by
  rw [rows, rowsOf, rowsOf, List.append_nil]
  have := rows_down 1 0 f
  rw [this]
  rfl

theorem nots_rows (n : Nat) (f : Ft) : deepest (rows 0 (nots n f)) = deepest (rows 0 f) + n ∧ ((∀ r ∈ rows 0 f, shapeOK r = true) → ∀ r ∈ rows 0 (nots n f), shapeOK r = true) := by
  induction n with
  | zero => exact ⟨rfl, fun h => h⟩
  | succ n ih =>
    rw [nots, rows_not]
    refine ⟨?_, fun h r hr => ?_⟩
    · rw [deepest, deepest_down 1 _ (rows_ne 0 _), ih.1]
      simp only
      omega
    · rcases List.mem_cons.1 hr with rfl | hr
      · decide
      · obtain ⟨s, hs, rfl⟩ := List.mem_map.1 hr
        exact ih.2 h s hs

theorem nots_good (n : Nat) (f : Ft) (h : good f = true) : good (nots n f) = decide (deepest (rows 0 f) + n ≤ 18) := by
  have hf := (good_iff f).1 h
  rw [Bool.eq_iff_iff, good_iff, (nots_rows n f).1, decide_eq_true_eq]
  exact ⟨fun h => h.2, fun h => ⟨(nots_rows n f).2 hf.1, h⟩⟩

theorem deepest_good (f : Ft) (h : good f = true) : deepest (rows 0 f) ≤ 18 := ((good_iff f).1 h).2

end Ft
end Go.Proofs.Ytgmahdeaggjjgaa
