/-
  ROWS IN ORDER, EACH ONCE: no program in it.
-/
import Derived.Test.YtgcldnojmdabpaaOrd
namespace Go.Proofs.Ytgcldnojmdabpaa
open Go

/-- Rising, each once. -/
def Strict (c : Ent → Ent → Int) (l : List Ent) : Prop := l.Pairwise fun a b => c a b = -1
/-- Rising. -/
def Weak (c : Ent → Ent → Int) (l : List Ent) : Prop := l.Pairwise fun a b => c b a ≠ -1

/-- out is es in order, each once. -/
def Sorts (c : Ent → Ent → Int) (es out : List Ent) : Prop := Strict c out ∧ ∀ x, x ∈ out ↔ x ∈ es

theorem strict_unique {c : Ent → Ent → Int} (hc : LC c) : ∀ {l m : List Ent}, Strict c l → Strict c m → (∀ x, x ∈ l ↔ x ∈ m) → l = m
  | [], [], _, _, _ => rfl
  | [], b :: m, _, _, h => by
    have := (h b).2 (by simp)
    simp at this
  | a :: l, [], _, _, h => by
    have := (h a).1 (by simp)
    simp at this
  | a :: l, b :: m, hl, hm, h => by
    obtain ⟨h1, h2⟩ := List.pairwise_cons.1 hl
    obtain ⟨k1, k2⟩ := List.pairwise_cons.1 hm
    have irr : ∀ x, c x x ≠ -1 := fun x e => by rw [hc.refl] at e; omega
    have hab : a = b := by
      have ha := (h a).1 (by simp)
      have hb := (h b).2 (by simp)
      rcases List.mem_cons.1 ha with e | ha
      · exact e
      · rcases List.mem_cons.1 hb with e | hb
        · exact e.symm
        · exact absurd (hc.tr _ _ _ (h1 b hb) (k1 a ha)) (irr a)
    subst hab
    have : l = m := strict_unique hc h2 k2 fun x => by
      constructor
      · intro hx
        rcases List.mem_cons.1 ((h x).1 (by simp [hx])) with e | hx'
        · exact absurd (h1 x hx) (by rw [e]; exact irr a)
        · exact hx'
      · intro hx
        rcases List.mem_cons.1 ((h x).2 (by simp [hx])) with e | hx'
        · exact absurd (k1 x hx) (by rw [e]; exact irr a)
        · exact hx'
    rw [this]

theorem Sorts.unique {c : Ent → Ent → Int} (hc : LC c) {es fs l m : List Ent} (h : Sorts c es l) (k : Sorts c fs m) (he : ∀ x, x ∈ es ↔ x ∈ fs) : l = m :=
  strict_unique hc h.1 k.1 fun x => (h.2 x).trans ((he x).trans (k.2 x).symm)

theorem Strict.nil (c : Ent → Ent → Int) : Strict c [] := List.Pairwise.nil
theorem Strict.one (c : Ent → Ent → Int) (x : Ent) : Strict c [x] := List.pairwise_singleton _ _

/-- One more behind the last one. -/
theorem Strict.snoc {c : Ent → Ent → Int} (hc : LC c) {l : List Ent} {y : Ent} (h : Strict c (l ++ [y])) {x : Ent} (hx : c y x = -1) : Strict c (l ++ [y] ++ [x]) := by
  refine List.pairwise_append.2 ⟨h, List.pairwise_singleton _ _, fun a ha b hb => ?_⟩
  rw [List.mem_singleton.1 hb]
  rcases List.mem_append.1 ha with ha | ha
  · exact hc.tr _ _ _ ((List.pairwise_append.1 h).2.2 a ha y (by simp)) hx
  · rw [List.mem_singleton.1 ha]; exact hx

/-- One put in its place. -/
theorem strict_insert {c : Ent → Ent → Int} (hc : LC c) {l : List Ent} {k : Nat} {x : Ent} (hk : k ≤ l.length) (h : Strict c l) (h1 : ∀ i (hi : i < k), c (l[i]'(by omega)) x = -1) (h2 : ∀ i (hi : i < l.length), k ≤ i → c x l[i] = -1) :
    Strict c (l.take k ++ x :: l.drop k) := by
  refine List.pairwise_append.2 ⟨h.sublist (List.take_sublist _ _), List.pairwise_cons.2 ⟨fun b hb => ?_, h.sublist (List.drop_sublist _ _)⟩, fun a ha b hb => ?_⟩
  · obtain ⟨i, hi, rfl⟩ := List.getElem_of_mem hb
    rw [List.getElem_drop]
    exact h2 (k + i) _ (by omega)
  · obtain ⟨i, hi, rfl⟩ := List.getElem_of_mem ha
    have hik : i < k := by rw [List.length_take] at hi; omega
    rw [List.getElem_take]
    rcases List.mem_cons.1 hb with rfl | hb
    · exact h1 i hik
    · obtain ⟨j, hj, rfl⟩ := List.getElem_of_mem hb
      rw [List.getElem_drop]
      exact hc.tr _ _ _ (h1 i hik) (h2 (k + j) _ (by omega))

end Go.Proofs.Ytgcldnojmdabpaa
