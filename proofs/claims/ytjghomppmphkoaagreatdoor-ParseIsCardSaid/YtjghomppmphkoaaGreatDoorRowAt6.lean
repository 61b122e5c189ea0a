/-
  ROWS THAT LIE SO.
-/
import Derived.Test.YtjghomppmphkoaaGreatDoorRows6
import Derived.Test.YtjghomppmphkoaaGreatDoorRefName
import Derived.Deep.QuietTactic
import Derived.BigQuiet
namespace Go.Proofs.YtjghomppmphkoaaGreatDoor
open Go.RowKit Go

theorem flatW_get : ∀ (R : List Ft.Row) (i : Nat) (h : i < R.length) (c : Nat), c < 5 → (flatW R)[i * 5 + c]? = (rowC R[i])[c]?
  | [], i, h, _, _ => by simp at h
  | x :: r, 0, _, c, hc => by
    simp only [flatW, Nat.zero_mul, Nat.zero_add, List.getElem_cons_zero]
    rw [List.getElem?_append_left (by simp [rowC]; omega)]
  | x :: r, i + 1, h, c, hc => by
    simp only [flatW, List.getElem_cons_succ]
    rw [List.getElem?_append_right (by simp [rowC]; omega), ← flatW_get r i (by simpa using h) c hc]
    congr 1
    simp [rowC]
    omega

/-- Rows that lie so. -/
theorem Rk.rowAt {G : Nat → Prop} {w : World} {v : Value} {R : List Ft.Row} (h : Rk 5 G w v R.length (flatW R)) : ∃ a cap, v = .slice a R.length cap ∧ (R = [] ∨ ∃ b, a = some ⟨b, 0, none⟩ ∧ G b ∧ b < w.heap.size ∧
    ∀ i (h : i < R.length), w.cell? ⟨b, i * 5, none⟩ = some (.int .i64 R[i].op) ∧ w.cell? ⟨b, i * 5 + 1, none⟩ = some (.string R[i].name) ∧ w.cell? ⟨b, i * 5 + 2, none⟩ = some (.string R[i].text) ∧
      w.cell? ⟨b, i * 5 + 3, none⟩ = some (.int .i64 (R[i].kids : Nat)) ∧ w.cell? ⟨b, i * 5 + 4, none⟩ = some (.int .i64 (R[i].deep : Nat))) := by
  obtain ⟨_, ⟨rfl, h0⟩ | ⟨g, cap, rfl, hg, hlt, _, _, hc, _⟩⟩ := h
  · have := List.eq_nil_of_length_eq_zero h0
    subst this
    exact ⟨none, 0, rfl, .inl rfl⟩
  · refine ⟨_, _, rfl, .inr ⟨g, rfl, hg, hlt, fun i hi => ?_⟩⟩
    have get : ∀ c, c < 5 → w.cell? ⟨g, i * 5 + c, none⟩ = (rowC R[i])[c]? := fun c hc' => by
      rw [← flatW_get R i hi c hc']
      exact hc _ (by rw [flatW_length]; omega)
    exact ⟨get 0 (by omega), get 1 (by omega), get 2 (by omega), get 3 (by omega), get 4 (by omega)⟩

end Go.Proofs.YtjghomppmphkoaaGreatDoor
