/-
  HOW MANY FILTERS A MADE ONE HAS; a good filter's kids are good: no program in it.
-/
import Derived.Test.YtmodiemmcdocdaaDoorTrA
namespace Go.Proofs.YtmodiemmcdocdaaDoor
open Go
namespace Ft

theorem counts_le {B : Nat} : ∀ (l : List Ft), (∀ x ∈ l, count x ≤ B) → counts l ≤ l.length * B
  | [], _ => by simp [counts]
  | x :: r, h => by
    have h1 := h x (by simp)
    have h2 := counts_le r (fun y hy => h y (by simp [hy]))
    rw [counts, List.length_cons, Nat.succ_mul]
    omega

theorem make_count (l : List Int) : ∀ (d p : Nat), (make l d p).1.count ≤ 4 ^ d := by
  have leaf : ∀ (o : Int) (n t : ByteArray), (mk o n t []).count = 1 := fun o n t => by rw [count, counts]
  have hp : ∀ d, 1 ≤ 4 ^ d := fun d => Nat.one_le_pow _ _ (by decide)
  intro d
  induction d with
  | zero =>
    intro p
    simp only [make]
    repeat' split
    all_goals (rw [leaf]; exact hp 0)
  | succ d ih =>
    intro p
    simp only [make]
    have h4 := hp (d + 1)
    have h5 := hp d
    split
    · rw [leaf]; exact h4
    split
    · rw [leaf]; exact h4
    split
    · rw [leaf]; exact h4
    split
    · rw [leaf]; exact h4
    split
    · have := ih (next l 8 p).2
      rw [count, counts, counts]
      rw [Nat.pow_succ]
      omega
    · have h2 := next_lt (l := l) (n := 2) (p := (next l 2 (next l 8 p).2).2) (by decide)
      have hc := counts_le (B := 4 ^ d) (several (make l d) (2 + (next l 2 (next l 2 (next l 8 p).2).2).1) (next l 2 (next l 2 (next l 8 p).2).2).2).1 (several_all (P := fun x => x.count ≤ 4 ^ d) (fun p => ih p) _ _)
      rw [several_length] at hc
      rw [count, Nat.pow_succ]
      generalize (next l 2 (next l 2 (next l 8 p).2).2).1 = k at h2 hc
      have h6 : (2 + k) * 4 ^ d ≤ 3 * 4 ^ d := Nat.mul_le_mul_right _ (by omega)
      omega

theorem rowsOf_mem {x : Ft} : ∀ (d : Nat) (k : List Ft), x ∈ k → ∀ r ∈ rows d x, r ∈ rowsOf d k
  | _, [], h, _, _ => by simp at h
  | d, y :: l, h, r, hr => by
    rw [rowsOf, List.mem_append]
    rcases List.mem_cons.1 h with rfl | h
    · exact .inl hr
    · exact .inr (rowsOf_mem d l h r hr)

theorem good_kid {o : Int} {n t : ByteArray} {k : List Ft} (h : good (mk o n t k) = true) {x : Ft} (hx : x ∈ k) : good x = true := by
  unfold good at h ⊢
  rw [rows, List.all_cons, Bool.and_eq_true] at h
  refine List.all_eq_true.2 fun r hr => ?_
  have h1 : Row.down 1 r ∈ rowsOf (0 + 1) k := rowsOf_mem 1 k hx _ (by
    have := rows_down 1 0 x
    rw [Nat.zero_add] at this
    rw [this]
    exact List.mem_map_of_mem hr)
  have h2 := List.all_eq_true.1 h.2 _ h1
  unfold rowOK Row.down at h2
  unfold rowOK
  simp only [Bool.and_eq_true, decide_eq_true_eq] at h2 ⊢
  exact ⟨⟨⟨⟨h2.1.1.1.1, by have := h2.1.1.1.2; omega⟩, h2.1.1.2⟩, h2.1.2⟩, h2.2⟩

theorem counts_take (ks : List Ft) (i : Nat) (h : i < ks.length) : counts (ks.take (i + 1)) = counts (ks.take i) + count ks[i] := by
  induction ks generalizing i with
  | nil => simp at h
  | cons x r ih =>
    cases i with
    | zero => simp [counts]
    | succ i =>
      simp only [List.take_succ_cons, counts, List.getElem_cons_succ]
      rw [ih i (by simpa using h)]
      omega

theorem counts_mem' (ks : List Ft) (i : Nat) (h : i < ks.length) : count ks[i] ≤ counts ks := by
  induction ks generalizing i with
  | nil => simp at h
  | cons x r ih =>
    cases i with
    | zero => simp [counts]
    | succ i =>
      have := ih i (by simpa using h)
      simp only [counts, List.getElem_cons_succ]
      omega

end Ft
end Go.Proofs.YtmodiemmcdocdaaDoor
