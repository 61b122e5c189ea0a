/-
  VALUES THAT ARE KNOWN, AND SOME THAT LIE IN MEMORY, as the operations of a region leave them.
-/
import Derived.Test.YtdjddlebjbngfaaGreatDoorHw
namespace Go.Proofs.YtdjddlebjbngfaaGreatDoor.E4
open Go.RowKit Go

/-- What an operation leaves: a value that is known, or (of those in S) one of which something is known. -/
def GV (cs : List (Option Value)) (S : List Nat) (sp : Nat → Value → World → Prop) (j : Nat) (ys : Nat → Value) (w : World) : Prop :=
  if j ∈ S then sp j (ys j) w else ∀ v, cs.getD j none = some v → ys j = v

theorem GV.keep {cs : List (Option Value)} {S : List Nat} {sp : Nat → Value → World → Prop} (hsp : ∀ j v w w', sp j v w → Below w.heap.size w w' → sp j v w') {i j : Nat} {ys : Nat → Value} {v : Value} {w w' : World} (hij : i ≠ j) (h : GV cs S sp j ys w) (hb : Below w.heap.size w w') : GV cs S sp j (H3.upd ys i v) w' := by
  unfold GV at h ⊢
  by_cases hS : j ∈ S
  · rw [if_pos hS] at h ⊢
    rw [H3.upd_other ys v (Ne.symm hij)]
    exact hsp _ _ _ _ h hb
  · rw [if_neg hS] at h ⊢
    intro u hu
    rw [H3.upd_other ys v (Ne.symm hij)]
    exact h u hu

theorem GV.val {cs : List (Option Value)} {S : List Nat} {sp : Nat → Value → World → Prop} {j : Nat} {ys : Nat → Value} {w : World} {v : Value} (h : GV cs S sp j ys w) (hj : j ∉ S) (hv : cs.getD j none = some v) : ys j = v := by
  unfold GV at h
  rw [if_neg hj] at h
  exact h v hv

theorem GV.of {cs : List (Option Value)} {S : List Nat} {sp : Nat → Value → World → Prop} {j : Nat} {ys : Nat → Value} {w : World} {v : Value} (hj : j ∉ S) (hv : ∀ u, cs.getD j none = some u → u = v) : GV cs S sp j (H3.upd ys j v) w := by
  unfold GV
  rw [if_neg hj]
  intro u hu
  rw [H3.upd_same, hv u hu]

theorem GV.spv {cs : List (Option Value)} {S : List Nat} {sp : Nat → Value → World → Prop} {j : Nat} {ys : Nat → Value} {w : World} (h : GV cs S sp j ys w) (hj : j ∈ S) : sp j (ys j) w := by
  unfold GV at h
  rwa [if_pos hj] at h

theorem GV.ofsp {cs : List (Option Value)} {S : List Nat} {sp : Nat → Value → World → Prop} {j : Nat} {ys : Nat → Value} {w : World} {v : Value} (hj : j ∈ S) (h : sp j v w) : GV cs S sp j (H3.upd ys j v) w := by
  unfold GV
  rw [if_pos hj, H3.upd_same]
  exact h

theorem puts_defers12 {ys : Nat → Value} : ∀ (l : List Oper) (k : Nat) (a : Act), (H3.putsFrom ys l k a).defers = a.defers
  | [], _, _ => rfl
  | o :: r, k, a => by
    rw [H3.putsFrom, puts_defers12 r (k + 1)]
    cases o.dst <;> rfl

/-- Behind a region of which one slot alone is read. -/
theorem fin_of12 (d : Nat) {ops : List Oper} {ys : Nat → Value} {a0 : Act} {K : Act → World → Prop} {Q : Exit → Act → World → Prop} {w : World} {v : Value} (h : ∀ P : Act, P.tmps.getD d undef = v → P.defers = a0.defers → K P w) (hs : d < a0.tmps.size) (hv : H3.slotFrom ys d ops 0 (a0.tmps.getD d undef) = v) : Exit.then K Q .normal (H3.putsFrom ys ops 0 a0) w :=
  h _ ((H3.getD_puts ops 0 a0 hs).trans hv) (puts_defers12 ops 0 a0)

end Go.Proofs.YtdjddlebjbngfaaGreatDoor.E4
