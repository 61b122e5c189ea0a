/-
  HOW MANY FILTERS A MADE ONE HAS; a good filter's kids are good: no program in it.
-/
import Derived.Test.YtkckgjanfiiieaaGreatDoorTrA
namespace Go.Proofs.YtkckgjanfiiieaaGreatDoor
open Go
namespace Ft

theorem counts_le {B : Nat} : ∀ (l : List Ft), (∀ x ∈ l, count x ≤ B) → counts l ≤ l.length * B
  | [], _ => by simp [counts]
  | x :: r, h => by
    have h1 := h x (by simp)
    have h2 := counts_le r (fun y hy => h y (by simp [hy]))
    rw [counts, List.length_cons, Nat.succ_mul]
    omega

theorem make_count (l : List Int) : ∀ (d p : Nat), (make l d p).1.count ≤ 4 ^ d := by
  have leaf : ∀ (o : Int) (n t : ByteArray), (mk o n t []).count = 1 := fun o n t => by rw [count, counts]
  have hp : ∀ d, 1 ≤ 4 ^ d := fun d => Nat.one_le_pow _ _ (by decide)
  intro d
  induction d with
  | zero =>
    intro p
    simp only [make]
    repeat' split
    all_goals (rw [leaf]; exact hp 0)
  | succ d ih =>
    intro p
    simp only [make]
    have h4 := hp (d + 1)
    have h5 := hp d
    split
    · rw [leaf]; exact h4
    split
    · rw [leaf]; exact h4
    split
    · rw [leaf]; exact h4
    split
    · rw [leaf]; exact h4
    split
    · have := ih (next l 8 p).2
      rw [count, counts, counts]
      rw [Nat.pow_succ]
      omega
    · have h2 := next_lt (l := l) (n := 2) (p := (next l 2 (next l 8 p).2).2) (by decide)
      have hc := counts_le (B := 4 ^ d) (several (make l d) (2 + (next l 2 (next l 2 (next l 8 p).2).2).1) (next l 2 (next l 2 (next l 8 p).2).2).2).1 (several_all (P := fun x => x.count ≤ 4 ^ d) (fun p => ih p) _ _)
      rw [several_length] at hc
      rw [count, Nat.pow_succ]
      generalize (next l 2 (next l 2 (next l 8 p).2).2).1 = k at h2 hc
      have h6 : (2 + k) * 4 ^ d ≤ 3 * 4 ^ d := Nat.mul_le_mul_right _ (by omega)
      omega

theorem counts_take (ks : List Ft) (i : Nat) (h : i < ks.length) : counts (ks.take (i + 1)) = counts (ks.take i) + count ks[i] := by
  induction ks generalizing i with
  | nil => simp at h
  | cons x r ih =>
    cases i with
    | zero => simp [counts]
    | succ i =>
      simp only [List.take_succ_cons, counts, List.getElem_cons_succ]
      rw [ih i (by simpa using h)]
      omega

end Ft
end Go.Proofs.YtkckgjanfiiieaaGreatDoor
