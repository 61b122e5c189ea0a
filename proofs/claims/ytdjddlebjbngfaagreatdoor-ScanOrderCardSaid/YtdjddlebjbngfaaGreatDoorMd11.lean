/-
  CUTS AND PAGES OF A LIST THAT IS IN ORDER, as mathematics: no program in it. (For stage 11.)
-/
import Derived.Test.YtdjddlebjbngfaaGreatDoorEt
namespace Go.Proofs.YtdjddlebjbngfaaGreatDoor.E4.Md
open Go

variable {α : Type} {c : α → α → Int}

/-- Is it behind a mark? -/
def behind (c : α → α → Int) (a : Option α) (e : α) : Bool := match a with
  | none => true
  | some x => decide (c x e = -1)

/-- What comes behind a mark. -/
def rest (c : α → α → Int) (a : Option α) (l : List α) : List α := l.filter (behind c a)

/-- So many behind a mark; are there no more? -/
def cut (c : α → α → Int) (a : Option α) (n : Nat) (l : List α) : List α × Bool := ((rest c a l).take n, decide ((rest c a l).length ≤ n))

/-- As one goes over the list. -/
def loop (c : α → α → Int) (a : Option α) (n : Nat) : List α → List α → List α × Bool
  | [], out => (out, true)
  | e :: l, out => if behind c a e = true then (if n ≤ out.length then (out, false) else loop c a n l (out ++ [e])) else loop c a n l out

theorem loop_cut (a : Option α) (n : Nat) : ∀ (l out : List α), out.length ≤ n → loop c a n l out = (out ++ (rest c a l).take (n - out.length), decide (out.length + (rest c a l).length ≤ n))
  | [], out, h => by simp [loop, rest, h]
  | e :: l, out, h => by
    by_cases hb : behind c a e = true
    · have hr : rest c a (e :: l) = e :: rest c a l := by simp [rest, hb]
      rw [loop, if_pos hb, hr]
      by_cases hn : n ≤ out.length
      · rw [if_pos hn]
        have e1 : n - out.length = 0 := by omega
        rw [e1]
        simp
        omega
      · rw [if_neg hn, loop_cut a n l (out ++ [e]) (by simp; omega)]
        have e1 : n - out.length = (n - (out ++ [e]).length) + 1 := by simp; omega
        rw [e1, List.take_succ_cons]
        simp
        omega
    · have hr : rest c a (e :: l) = rest c a l := by simp [rest, hb]
      rw [loop, if_neg hb, hr, loop_cut a n l out h]

theorem loop_all (a : Option α) (n : Nat) (l : List α) : loop c a n l [] = cut c a n l := by
  rw [loop_cut a n l [] (Nat.zero_le _)]
  simp [cut]

/-- Behind an entry of a list that is in order: what stands behind it. -/
theorem rest_at (hc : LC c) : ∀ {l : List α}, l.Pairwise (fun a b => c a b = -1) → ∀ (i : Nat) (hi : i < l.length), rest c (some l[i]) l = l.drop (i + 1)
  | x :: l, h, 0, _ => by
    obtain ⟨h1, _⟩ := List.pairwise_cons.1 h
    have e0 : behind c (some x) x = false := by simp [behind, hc.refl]
    simp only [List.getElem_cons_zero, Nat.zero_add, List.drop_succ_cons, List.drop_zero]
    unfold rest
    rw [List.filter_cons_of_neg (by simp [e0]), List.filter_eq_self]
    intro y hy
    simp [behind, h1 y hy]
  | x :: l, h, i + 1, hi => by
    obtain ⟨h1, h2⟩ := List.pairwise_cons.1 h
    have hi' : i < l.length := by simpa using hi
    have e0 : behind c (some l[i]) x = false := by
      have h3 := h1 l[i] (List.getElem_mem hi')
      have h4 := hc.neg x l[i]
      simp [behind]
      omega
    simp only [List.getElem_cons_succ, List.drop_succ_cons]
    have ih := rest_at hc h2 i hi'
    unfold rest at ih ⊢
    rw [List.filter_cons_of_neg (by simp [e0]), ih]

/-- The pages of a list. -/
def pages (n : Nat) : Nat → List α → List (List α)
  | 0, _ => []
  | k + 1, l => l.take n :: if n < l.length then pages n k (l.drop n) else []

theorem pages_flat {n : Nat} (hn : 1 ≤ n) : ∀ (k : Nat) (l : List α), l.length ≤ k → (pages n (k + 1) l).flatten = l
  | 0, l, h => by
    have : l = [] := List.eq_nil_of_length_eq_zero (by omega)
    subst this
    simp [pages]
  | k + 1, l, h => by
    rw [pages, List.flatten_cons]
    split
    · rw [pages_flat hn k (l.drop n) (by simp; omega), List.take_append_drop]
    · rw [List.flatten_nil, List.append_nil, List.take_of_length_le (by omega)]

theorem pages_at {n : Nat} : ∀ (k : Nat) (l : List α) (i : Nat) (hi : i < (pages n k l).length), (pages n k l)[i] = (l.drop (i * n)).take n ∧ (0 < i → i * n < l.length)
  | k + 1, l, 0, hi => by simp [pages]
  | k + 1, l, i + 1, hi => by
    unfold pages at hi ⊢
    by_cases h : n < l.length
    · rw [if_pos h] at hi
      simp only [if_pos h, List.getElem_cons_succ]
      have hi' : i < (pages n k (l.drop n)).length := by simpa using hi
      obtain ⟨h1, h2⟩ := pages_at k (l.drop n) i hi'
      refine ⟨by rw [h1, List.drop_drop]; congr 2; rw [Nat.add_mul]; omega, fun _ => ?_⟩
      rw [Nat.add_mul]
      rcases Nat.eq_zero_or_pos i with h0 | h0
      · subst h0; omega
      · have h3 := h2 h0
        rw [List.length_drop] at h3
        omega
    · rw [if_neg h] at hi
      simp at hi
  | 0, l, i, hi => by simp [pages] at hi

/-- Every page but the last one is full. -/
theorem pages_full {n : Nat} : ∀ (k : Nat) (l : List α) (i : Nat) (_ : i + 1 < (pages n k l).length), (i + 1) * n < l.length
  | k + 1, l, i, hi => (pages_at (k + 1) l (i + 1) hi).2 (Nat.succ_pos _)
  | 0, l, i, hi => by simp [pages] at hi

theorem pages_size {n : Nat} (k : Nat) (l : List α) (i : Nat) (hi : i < (pages n k l).length) : (pages n k l)[i].length = min n (l.length - i * n) := by
  rw [(pages_at k l i hi).1, List.length_take, List.length_drop]

theorem pages_count {n : Nat} (hn : 1 ≤ n) : ∀ (k : Nat) (l : List α), l.length ≤ k → (pages n (k + 1) l).length = max ((l.length + n - 1) / n) 1
  | 0, l, h => by
    have : l = [] := List.eq_nil_of_length_eq_zero (by omega)
    subst this
    have e1 : (n - 1) / n = 0 := Nat.div_eq_of_lt (by omega)
    simp [pages, e1]
  | k + 1, l, h => by
    rw [pages, List.length_cons]
    split
    · rename_i hl
      rw [pages_count hn k (l.drop n) (by simp; omega), List.length_drop]
      have e1 : (l.length + n - 1) / n = (l.length - n + n - 1) / n + 1 := by
        rw [show l.length + n - 1 = (l.length - n + n - 1) + n by omega, Nat.add_div_right _ (by omega)]
      have e2 : 1 ≤ (l.length - n + n - 1) / n := (Nat.one_le_div_iff (by omega)).2 (by omega)
      omega
    · rename_i hl
      rw [List.length_nil]
      have e1 : (l.length + n - 1) / n ≤ 1 := by
        rw [← Nat.lt_succ_iff, Nat.div_lt_iff_lt_mul (by omega)]
        omega
      omega

/-! ### Lists in order, each once -/

/-- In order, each once. -/
def InRow (c : α → α → Int) (l : List α) : Prop := l.Pairwise fun a b => c a b = -1
/-- The same ones in order, each once. -/
def Sorted (c : α → α → Int) (es out : List α) : Prop := InRow c out ∧ ∀ x, x ∈ out ↔ x ∈ es

theorem strict_unique (hc : LC c) : ∀ {l m : List α}, InRow c l → InRow c m → (∀ x, x ∈ l ↔ x ∈ m) → l = m
  | [], [], _, _, _ => rfl
  | [], b :: m, _, _, h => by
    have := (h b).2 (by simp)
    simp at this
  | a :: l, [], _, _, h => by
    have := (h a).1 (by simp)
    simp at this
  | a :: l, b :: m, hl, hm, h => by
    obtain ⟨h1, h2⟩ := List.pairwise_cons.1 hl
    obtain ⟨k1, k2⟩ := List.pairwise_cons.1 hm
    have irr : ∀ x, c x x ≠ -1 := fun x e => by rw [hc.refl] at e; omega
    have hab : a = b := by
      have ha := (h a).1 (by simp)
      have hb := (h b).2 (by simp)
      rcases List.mem_cons.1 ha with e | ha
      · exact e
      · rcases List.mem_cons.1 hb with e | hb
        · exact e.symm
        · exact absurd (hc.tr _ _ _ (h1 b hb) (k1 a ha)) (irr a)
    subst hab
    have : l = m := strict_unique hc h2 k2 fun x => by
      constructor
      · intro hx
        rcases List.mem_cons.1 ((h x).1 (by simp [hx])) with e | hx'
        · exact absurd (h1 x hx) (by rw [e]; exact irr a)
        · exact hx'
      · intro hx
        rcases List.mem_cons.1 ((h x).2 (by simp [hx])) with e | hx'
        · exact absurd (k1 x hx) (by rw [e]; exact irr a)
        · exact hx'
    rw [this]

theorem Sorted.unique (hc : LC c) {es fs l m : List α} (h : Sorted c es l) (k : Sorted c fs m) (he : ∀ x, x ∈ es ↔ x ∈ fs) : l = m :=
  strict_unique hc h.1 k.1 fun x => (h.2 x).trans ((he x).trans (k.2 x).symm)

/-- The other way round. -/
theorem LC.turn (hc : LC c) : LC fun a b => c b a where
  tri a b := hc.tri b a
  neg a b := hc.neg b a
  eq a b h := (hc.eq b a h).symm
  refl a := hc.refl a
  tr a b d h k := hc.tr d b a k h
theorem Sorted.turn {es l : List α} (h : Sorted c es l) : Sorted (fun a b => c b a) es l.reverse :=
  ⟨List.pairwise_reverse.2 h.1, fun x => List.mem_reverse.trans (h.2 x)⟩

/-- One more that is kept. -/
theorem Sorted.more {es A B : List α} {e : α} (h : Sorted c es A) (k : Sorted c (es ++ [e]) B) : Sorted c (A ++ [e]) B :=
  ⟨k.1, fun x => by rw [k.2 x, List.mem_append, List.mem_append, h.2 x]⟩

theorem inRow_once (hc : LC c) (e : α) : ∀ {l : List α}, InRow c l → e ∈ l → (l.filter fun x => decide (c x e = 0)).length = 1
  | x :: l, h, hm => by
    obtain ⟨h1, h2⟩ := List.pairwise_cons.1 h
    by_cases hx : c x e = 0
    · obtain rfl := hc.eq _ _ hx
      rw [List.filter_cons_of_pos (by simp [hx]), List.length_cons]
      have h3 : l.filter (fun y => decide (c y x = 0)) = [] := by
        rw [List.filter_eq_nil_iff]
        intro y hy
        have := h1 y hy
        have := hc.neg x y
        simp
        omega
      rw [h3]
      rfl
    · rw [List.filter_cons_of_neg (by simp [hx])]
      rcases List.mem_cons.1 hm with rfl | hm
      · exact absurd (hc.refl _) hx
      · exact inRow_once hc e h2 hm

/-! ### The place behind a mark, found by halving -/

/-- Is the place's entry behind the mark? -/
def isB (c : α → α → Int) (a : α) (l : List α) (d : α) (i : Nat) : Bool := decide (c a (l.getD i d) = -1)

theorem isB_mono (hc : LC c) {a d : α} {l : List α} (h : InRow c l) (i j : Nat) (hij : i ≤ j) (hj : j < l.length) (hi : isB c a l d i = true) : isB c a l d j = true := by
  unfold isB at hi ⊢
  rcases Nat.lt_or_ge i j with hlt | hge
  · have h1 := List.pairwise_iff_getElem.1 h i j (by omega) hj hlt
    simp only [List.getD, List.getElem?_eq_getElem (show i < l.length by omega), List.getElem?_eq_getElem hj, Option.getD_some, decide_eq_true_eq] at hi ⊢
    exact hc.tr _ _ _ hi h1
  · obtain rfl : i = j := by omega
    exact hi

theorem drop_isB (hc : LC c) (a d : α) : ∀ {l : List α}, InRow c l → l.drop ((List.range l.length).countP fun i => !isB c a l d i) = rest c (some a) l
  | [], _ => rfl
  | x :: l, h => by
    obtain ⟨h1, h2⟩ := List.pairwise_cons.1 h
    have ih := drop_isB hc a d h2
    have e0 : isB c a (x :: l) d 0 = decide (c a x = -1) := rfl
    have e1 : ∀ i, isB c a (x :: l) d (i + 1) = isB c a l d i := fun i => by simp [isB]
    rw [List.length_cons, List.range_succ_eq_map, List.countP_cons, List.countP_map]
    have e2 : ((fun i => !isB c a (x :: l) d i) ∘ Nat.succ) = fun i => !isB c a l d i := by
      funext i
      exact congrArg (fun b => !b) (e1 i)
    rw [e2, e0]
    by_cases hx : c a x = -1
    · have h3 : (List.range l.length).countP (fun i => !isB c a l d i) = 0 := by
        rw [List.countP_eq_zero]
        intro i hi
        have hil : i < l.length := by simpa using hi
        have h4 := hc.tr _ _ _ hx (h1 l[i] (List.getElem_mem hil))
        simp [isB, hil, h4]
      rw [h3]
      simp only [hx, decide_true, Bool.not_true, Bool.false_eq_true, if_false, Nat.add_zero, List.drop_zero]
      unfold rest
      rw [List.filter_eq_self.2]
      intro y hy
      rcases List.mem_cons.1 hy with rfl | hy
      · simp [behind, hx]
      · simp [behind, hc.tr _ _ _ hx (h1 y hy)]
    · simp only [hx, decide_false, Bool.not_false, if_true, List.drop_succ_cons]
      rw [ih]
      unfold rest
      rw [List.filter_cons_of_neg (by simp [behind, hx])]

theorem countP_le (a d : α) (l : List α) : (List.range l.length).countP (fun i => !isB c a l d i) ≤ l.length := by
  have := List.countP_le_length (p := fun i => !isB c a l d i) (l := List.range l.length)
  simpa using this

theorem rest_none (l : List α) : rest c none l = l := by
  unfold rest
  rw [List.filter_eq_self]
  intro y _
  rfl

theorem rest_len (a : Option α) (l : List α) : (rest c a l).length ≤ l.length := List.length_filter_le _ _

/-- How many are taken. -/
theorem cut_n (n : Int) (k : Nat) : (min (max n 0) (k : Int)) = ((min n.toNat k : Nat) : Int) := by omega

theorem take_min (n : Nat) (l : List α) : l.take (min n l.length) = l.take n := by
  rcases Nat.le_total n l.length with h | h
  · rw [Nat.min_eq_left h]
  · rw [Nat.min_eq_right h, List.take_of_length_le (Nat.le_refl _), List.take_of_length_le h]

end Go.Proofs.YtdjddlebjbngfaaGreatDoor.E4.Md
