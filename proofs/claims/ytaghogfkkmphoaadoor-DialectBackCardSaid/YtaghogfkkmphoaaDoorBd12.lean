/-
  A QUESTION THAT IS NO MORE THAN IS PLAYED: its bounds.
-/
import Derived.Test.YtaghogfkkmphoaaDoorGk12
namespace Go.Proofs.YtaghogfkkmphoaaDoor.E4
open Go

/-- Its bounds. -/
def Ask.small (a : Ask) : Prop := a.all.length ≤ 100 ∧ a.mat.length ≤ 20 ∧ (∀ l ∈ a.all, l.length ≤ 100 ∧ ∀ s ∈ l, s.size ≤ 2000) ∧ ∀ m ∈ a.mat, m.name.size ≤ 200 ∧ m.value.size ≤ 2000
theorem Ask.small_of {a : Ask} (h : a.great = false) : a.small := by
  unfold Ask.great at h
  simp only [Bool.or_eq_false_iff, decide_eq_false_iff_not, List.any_eq_false] at h
  obtain ⟨⟨⟨h1, h2⟩, h3⟩, h4⟩ := h
  refine ⟨by omega, by omega, fun l hl => ?_, fun m hm => ?_⟩
  · have := h3 l hl
    unfold bigL bigW at this
    simp only [Bool.not_eq_true, Bool.or_eq_false_iff, decide_eq_false_iff_not, List.any_eq_false, decide_eq_true_eq] at this
    exact ⟨by omega, fun s hs => by have := this.2 s hs; omega⟩
  · have := h4 m hm
    unfold bigM at this
    simp only [Bool.not_eq_true, Bool.or_eq_false_iff, decide_eq_false_iff_not] at this
    omega
theorem Ask.small_rows {a : Ask} (h : a.small) : ∀ l ∈ a.all, l.length ≤ 1000 := fun l hl => by have := (h.2.2.1 l hl).1; omega

end Go.Proofs.YtaghogfkkmphoaaDoor.E4
