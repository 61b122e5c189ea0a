/-
  ROWS IN ORDER, each once, as mathematics: put one by one where they belong; there is just one such row of the same members.
-/
import Derived.Test.YtkckgjanfiiieaaGreatDoorNm10
namespace Go.Proofs.YtkckgjanfiiieaaGreatDoor
open Go
namespace Nr

/-- An order: of two that differ one comes ahead. -/
structure Ord (α : Type) (lt : α → α → Bool) : Prop where
  irr : ∀ a, lt a a = false
  tr : ∀ a b c, lt a b = true → lt b c = true → lt a c = true
  tri : ∀ a b, lt a b = false → a ≠ b → lt b a = true

variable {α : Type} [DecidableEq α] {lt : α → α → Bool}

omit [DecidableEq α] in
theorem sorted_unique (h : Ord α lt) : ∀ {xs ys : List α}, xs.Pairwise (fun a b => lt a b = true) → ys.Pairwise (fun a b => lt a b = true) → (∀ a, a ∈ xs ↔ a ∈ ys) → xs = ys
  | [], [], _, _, _ => rfl
  | [], y :: ys, _, _, hm => by have := (hm y).2 (by simp); simp at this
  | x :: xs, [], _, _, hm => by have := (hm x).1 (by simp); simp at this
  | x :: xs, y :: ys, hx, hy, hm => by
    rw [List.pairwise_cons] at hx hy
    have hxy : x = y := by
      have h1 := (hm x).1 (by simp)
      have h2 := (hm y).2 (by simp)
      rcases List.mem_cons.1 h1 with h1 | h1
      · exact h1
      · rcases List.mem_cons.1 h2 with h2 | h2
        · exact h2.symm
        · have a1 := hy.1 x h1
          have a2 := hx.1 y h2
          have := h.tr _ _ _ a1 a2
          rw [h.irr] at this
          cases this
    subst hxy
    congr 1
    refine sorted_unique h hx.2 hy.2 fun a => ?_
    have ha := hm a
    rw [List.mem_cons, List.mem_cons] at ha
    constructor
    · intro hm1
      rcases ha.1 (.inr hm1) with rfl | h3
      · have := hx.1 _ hm1; rw [h.irr] at this; cases this
      · exact h3
    · intro hm1
      rcases ha.2 (.inr hm1) with rfl | h3
      · have := hy.1 _ hm1; rw [h.irr] at this; cases this
      · exact h3

/-- One more, where it belongs, unless it is there. -/
def ins (lt : α → α → Bool) (m : α) : List α → List α
  | [] => [m]
  | x :: r => if lt x m = true then x :: ins lt m r else if x = m then x :: r else m :: x :: r

theorem ins_mem (m a : α) : ∀ l : List α, a ∈ ins lt m l ↔ a = m ∨ a ∈ l
  | [] => by simp [ins]
  | x :: r => by
    rw [ins]
    split
    · rw [List.mem_cons, ins_mem m a r, List.mem_cons]
      constructor
      · rintro (h | h | h)
        · exact .inr (.inl h)
        · exact .inl h
        · exact .inr (.inr h)
      · rintro (h | h | h)
        · exact .inr (.inl h)
        · exact .inl h
        · exact .inr (.inr h)
    · split
      · rename_i he
        subst he
        constructor
        · exact fun h => .inr h
        · rintro (rfl | h)
          · simp
          · exact h
      · rw [List.mem_cons]

theorem ins_sorted (h : Ord α lt) (m : α) : ∀ {l : List α}, l.Pairwise (fun a b => lt a b = true) → (ins lt m l).Pairwise (fun a b => lt a b = true)
  | [], _ => by rw [ins]; simp
  | x :: r, hl => by
    rw [List.pairwise_cons] at hl
    rw [ins]
    split
    · rename_i hxm
      rw [List.pairwise_cons]
      refine ⟨fun a ha => ?_, ins_sorted h m hl.2⟩
      rcases (ins_mem m a r).1 ha with rfl | ha
      · exact hxm
      · exact hl.1 a ha
    · rename_i hxm
      split
      · rw [List.pairwise_cons]; exact hl
      · rename_i hne
        have hmx := h.tri x m (Bool.eq_false_iff.2 hxm) hne
        rw [List.pairwise_cons]
        refine ⟨fun a ha => ?_, by rw [List.pairwise_cons]; exact hl⟩
        rcases List.mem_cons.1 ha with rfl | ha
        · exact hmx
        · exact h.tr _ _ _ hmx (hl.1 a ha)

/-- All of them, in order, each once. -/
def nub (lt : α → α → Bool) (l : List α) : List α := l.foldl (fun acc m => ins lt m acc) []

theorem nub_all (h : Ord α lt) : ∀ (l acc : List α), acc.Pairwise (fun a b => lt a b = true) → (l.foldl (fun acc m => ins lt m acc) acc).Pairwise (fun a b => lt a b = true) ∧ ∀ a, a ∈ l.foldl (fun acc m => ins lt m acc) acc ↔ a ∈ l ∨ a ∈ acc
  | [], acc, ha => ⟨ha, fun a => by simp⟩
  | x :: r, acc, ha => by
    obtain ⟨h1, h2⟩ := nub_all h r (ins lt x acc) (ins_sorted h x ha)
    refine ⟨h1, fun a => ?_⟩
    show a ∈ r.foldl (fun acc m => ins lt m acc) (ins lt x acc) ↔ _
    rw [h2 a, ins_mem, List.mem_cons]
    constructor
    · rintro (h | h | h)
      · exact .inl (.inr h)
      · exact .inl (.inl h)
      · exact .inr h
    · rintro ((h | h) | h)
      · exact .inr (.inl h)
      · exact .inl h
      · exact .inr (.inr h)

theorem nub_sorted (h : Ord α lt) (l : List α) : (nub lt l).Pairwise (fun a b => lt a b = true) := (nub_all h l [] List.Pairwise.nil).1
theorem nub_mem (h : Ord α lt) (l : List α) (a : α) : a ∈ nub lt l ↔ a ∈ l := by
  have := (nub_all h l [] List.Pairwise.nil).2 a
  unfold nub
  rw [this]
  simp

/-- There is just one. -/
theorem nub_unique (h : Ord α lt) {l s : List α} (hs : s.Pairwise (fun a b => lt a b = true)) (hm : ∀ a, a ∈ s ↔ a ∈ l) : s = nub lt l :=
  sorted_unique h hs (nub_sorted h l) fun a => (hm a).trans (nub_mem h l a).symm

theorem nub_same (h : Ord α lt) {l k : List α} (hm : ∀ a, a ∈ l ↔ a ∈ k) : nub lt l = nub lt k :=
  nub_unique h (nub_sorted h l) fun a => (nub_mem h l a).trans (hm a)

theorem nub_nub (h : Ord α lt) (l : List α) : nub lt (nub lt l) = nub lt l := nub_same h (nub_mem h l)

theorem ins_length (m : α) : ∀ l : List α, (ins lt m l).length ≤ l.length + 1
  | [] => by simp [ins]
  | x :: r => by
    rw [ins]
    split
    · rw [List.length_cons, List.length_cons]; have := ins_length m r; omega
    · split
      · exact Nat.le_succ _
      · simp

theorem nub_length (l : List α) : (nub lt l).length ≤ l.length := by
  have : ∀ (l acc : List α), (l.foldl (fun acc m => ins lt m acc) acc).length ≤ acc.length + l.length := by
    intro l
    induction l with
    | nil => intro acc; simp
    | cons x r ih =>
      intro acc
      have h1 := ih (ins lt x acc)
      have h2 := ins_length (lt := lt) x acc
      simp only [List.foldl_cons, List.length_cons]
      omega
  have := this l []
  unfold nub
  simpa using this

/-- Keeping by members: the same of both. -/
theorem nub_keeps (h : Ord α lt) (l : List α) (p : α → Bool) : (nub lt l).all p = l.all p := by
  rw [Bool.eq_iff_iff, List.all_eq_true, List.all_eq_true]
  exact ⟨fun hk a ha => hk a ((nub_mem h l a).2 ha), fun hk a ha => hk a ((nub_mem h l a).1 ha)⟩

end Nr
end Go.Proofs.YtkckgjanfiiieaaGreatDoor
