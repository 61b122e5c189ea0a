/-
  THE PLAIN FORM OF A FILTER, as mathematics: no program in it. Nots moved down, then rows folded; it keeps the same lines, is plain, and a plain one is its own.
-/
import Derived.Test.YtkckgjanfiiieaaGreatDoorMakeC6
namespace Go.Proofs.YtkckgjanfiiieaaGreatDoor
open Go
namespace Nr

abbrev e0 : ByteArray := ⟨#[]⟩

/-- A filter that can be (but for its texts, and how deep it is). -/
inductive Gd : Ft → Prop
  | const (o : Int) (h : o = 1 ∨ o = 2) : Gd (.mk o e0 e0 [])
  | leaf (o : Int) (n t : ByteArray) (h : o = 3 ∨ o = 4 ∨ o = 5) : Gd (.mk o n t [])
  | not (x : Ft) (h : Gd x) : Gd (.mk 6 e0 e0 [x])
  | row (o : Int) (k : List Ft) (h : o = 7 ∨ o = 8) (h2 : 2 ≤ k.length) (hk : ∀ x ∈ k, Gd x) : Gd (.mk o e0 e0 k)

mutual
/-- Nots moved down. -/
def nots : Bool → Ft → Ft
  | b, .mk o n t k =>
    if o = 6 then (notsL (!b) k).headD (.mk 0 e0 e0 []) else if o ≤ 2 then (if b then .mk (3 - o) e0 e0 [] else .mk o n t k)
    else if o ≤ 5 then (if b then .mk 6 e0 e0 [.mk o n t k] else .mk o n t k) else .mk (if b then 15 - o else o) e0 e0 (notsL b k)
def notsL : Bool → List Ft → List Ft
  | _, [] => []
  | b, x :: r => nots b x :: notsL b r
end

theorem notsL_map (b : Bool) : ∀ k : List Ft, notsL b k = k.map (nots b)
  | [] => by rw [notsL]; rfl
  | x :: r => by rw [notsL, notsL_map b r]; rfl

theorem nots_const (b : Bool) (o : Int) (h : o = 1 ∨ o = 2) : nots b (.mk o e0 e0 []) = .mk (if b then 3 - o else o) e0 e0 [] := by
  rw [nots, if_neg (by omega), if_pos (by omega)]
  cases b <;> rfl
theorem nots_leaf (b : Bool) (o : Int) (n t : ByteArray) (h : o = 3 ∨ o = 4 ∨ o = 5) : nots b (.mk o n t []) = if b then .mk 6 e0 e0 [.mk o n t []] else .mk o n t [] := by
  rw [nots, if_neg (by omega), if_neg (by omega), if_pos (by omega)]
theorem nots_not (b : Bool) (x : Ft) : nots b (.mk 6 e0 e0 [x]) = nots (!b) x := by
  rw [nots, if_pos rfl, notsL]
  rfl
theorem nots_row (b : Bool) (o : Int) (k : List Ft) (h : o = 7 ∨ o = 8) : nots b (.mk o e0 e0 k) = .mk (if b then 15 - o else o) e0 e0 (k.map (nots b)) := by
  rw [nots, if_neg (by omega), if_neg (by omega), if_neg (by omega), notsL_map]

/-- A filter whose nots are moved down. -/
inductive Nn : Ft → Prop
  | const (o : Int) (h : o = 1 ∨ o = 2) : Nn (.mk o e0 e0 [])
  | leaf (o : Int) (n t : ByteArray) (h : o = 3 ∨ o = 4 ∨ o = 5) : Nn (.mk o n t [])
  | not (o : Int) (n t : ByteArray) (h : o = 3 ∨ o = 4 ∨ o = 5) : Nn (.mk 6 e0 e0 [.mk o n t []])
  | row (o : Int) (k : List Ft) (h : o = 7 ∨ o = 8) (hk : ∀ x ∈ k, Nn x) : Nn (.mk o e0 e0 k)

theorem nots_nn {f : Ft} (h : Gd f) : ∀ b, Nn (nots b f) := by
  induction h with
  | const o h => intro b; rw [nots_const b o h]; exact .const _ (by cases b <;> simp <;> omega)
  | leaf o n t h =>
    intro b
    rw [nots_leaf b o n t h]
    cases b
    · exact .leaf o n t h
    · exact .not o n t h
  | not x _ ih => intro b; rw [nots_not]; exact ih _
  | row o k h _ _ ih =>
    intro b
    rw [nots_row b o k h]
    refine .row _ _ (by cases b <;> simp <;> omega) fun x hx => ?_
    obtain ⟨y, hy, rfl⟩ := List.mem_map.1 hx
    exact ih y hy b

/-- The one that decides a row: False of and, True of or. -/
def counts (o : Int) : Int := if o = 7 then 2 else 1

/-- What a part leaves in a row. -/
def part (o : Int) (x : Ft) : List Ft := if x.op = o then x.kids else if 2 < x.op then [x] else []

/-- A row of folded parts. -/
def foldRow (o : Int) (xs : List Ft) : Ft :=
  match xs.find? (fun x => decide (x.op = counts o)) with
  | some x => x
  | none => match xs.flatMap (part o) with
    | [] => .mk (3 - counts o) e0 e0 []
    | [x] => x
    | x :: y :: r => .mk o e0 e0 (x :: y :: r)

mutual
/-- Constants away, rows in one. -/
def fold : Ft → Ft
  | .mk o n t k => if o < 7 then .mk o n t k else foldRow o (foldL k)
def foldL : List Ft → List Ft
  | [] => []
  | x :: r => fold x :: foldL r
end

theorem foldL_map : ∀ k : List Ft, foldL k = k.map fold
  | [] => by rw [foldL]; rfl
  | x :: r => by rw [foldL, foldL_map r]; rfl

/-- The plain form. -/
def norm (f : Ft) : Ft := fold (nots false f)

/-- Within a plain form. -/
inductive In : Ft → Prop
  | leaf (o : Int) (n t : ByteArray) (h : o = 3 ∨ o = 4 ∨ o = 5) : In (.mk o n t [])
  | not (o : Int) (n t : ByteArray) (h : o = 3 ∨ o = 4 ∨ o = 5) : In (.mk 6 e0 e0 [.mk o n t []])
  | row (o : Int) (k : List Ft) (h : o = 7 ∨ o = 8) (h2 : 2 ≤ k.length) (hk : ∀ x ∈ k, In x) (ho : ∀ x ∈ k, x.op ≠ o) : In (.mk o e0 e0 k)

/-- A plain form. -/
def Pl (f : Ft) : Prop := f = .mk 1 e0 e0 [] ∨ f = .mk 2 e0 e0 [] ∨ In f

theorem In.op {f : Ft} (h : In f) : 2 < f.op := by
  cases h with
  | leaf o n t h => show 2 < o; omega
  | not o n t h => show (2 : Int) < 6; omega
  | row o k h h2 hk ho => show 2 < o; omega

theorem Pl.const {f : Ft} (h : Pl f) (ho : f.op ≤ 2) : f = .mk 1 e0 e0 [] ∨ f = .mk 2 e0 e0 [] := by
  rcases h with h | h | h
  · exact .inl h
  · exact .inr h
  · have := h.op; omega

theorem part_in {o : Int} (ho : o = 7 ∨ o = 8) {x : Ft} (h : Pl x) : ∀ y ∈ part o x, In y ∧ y.op ≠ o := by
  intro y hy
  unfold part at hy
  by_cases h1 : x.op = o
  · rw [if_pos h1] at hy
    rcases h with rfl | rfl | h
    · simp [Ft.kids] at hy
    · simp [Ft.kids] at hy
    · cases h with
      | leaf o' n t h => simp [Ft.kids] at hy
      | not o' n t h => have : (6 : Int) = o := h1; omega
      | row o' k h h2 hk hno =>
        have h1 : o' = o := h1
        subst h1
        exact ⟨hk y hy, hno y hy⟩
  · rw [if_neg h1] at hy
    by_cases h2 : 2 < x.op
    · rw [if_pos h2, List.mem_singleton] at hy
      subst hy
      rcases h with rfl | rfl | h
      · simp [Ft.op] at h2
      · simp [Ft.op] at h2
      · exact ⟨h, h1⟩
    · rw [if_neg h2] at hy
      simp at hy

theorem foldRow_pl {o : Int} (ho : o = 7 ∨ o = 8) {xs : List Ft} (h : ∀ x ∈ xs, Pl x) : Pl (foldRow o xs) := by
  unfold foldRow
  cases hf : xs.find? (fun x => decide (x.op = counts o)) with
  | some x =>
    have hm := List.mem_of_find?_eq_some hf
    exact h x hm
  | none =>
    have hin : ∀ y ∈ xs.flatMap (part o), In y ∧ y.op ≠ o := fun y hy => by
      obtain ⟨x, hx, hy⟩ := List.mem_flatMap.1 hy
      exact part_in ho (h x hx) y hy
    simp only
    split
    · unfold counts
      rcases ho with rfl | rfl
      · exact .inl (by simp)
      · exact .inr (.inl (by simp))
    · rename_i x he
      exact .inr (.inr (hin x (by rw [he]; simp)).1)
    · rename_i x y r he
      rw [he] at hin
      exact .inr (.inr (.row o _ ho (by simp) (fun z hz => (hin z hz).1) (fun z hz => (hin z hz).2)))

theorem fold_pl {f : Ft} (h : Nn f) : Pl (fold f) := by
  induction h with
  | const o h =>
    rw [fold, if_pos (by omega)]
    rcases h with rfl | rfl
    · exact .inl rfl
    · exact .inr (.inl rfl)
  | leaf o n t h => rw [fold, if_pos (by omega)]; exact .inr (.inr (.leaf o n t h))
  | not o n t h => rw [fold, if_pos (by omega)]; exact .inr (.inr (.not o n t h))
  | row o k h hk ih =>
    rw [fold, if_neg (by omega), foldL_map]
    refine foldRow_pl h fun x hx => ?_
    obtain ⟨y, hy, rfl⟩ := List.mem_map.1 hx
    exact ih y hy

theorem norm_pl {f : Ft} (h : Gd f) : Pl (norm f) := fold_pl (nots_nn h false)

/-- What is within a plain form can be, and its nots stand where they may. -/
theorem In.gd {f : Ft} (h : In f) : Gd f := by
  induction h with
  | leaf o n t h => exact .leaf o n t h
  | not o n t h => exact .not _ (.leaf o n t h)
  | row o k h h2 _ _ ih => exact .row o k h h2 ih
theorem Pl.gd {f : Ft} (h : Pl f) : Gd f := by
  rcases h with rfl | rfl | h
  · exact .const 1 (.inl rfl)
  · exact .const 2 (.inr rfl)
  · exact h.gd

theorem In.nots {f : Ft} (h : In f) : nots false f = f := by
  induction h with
  | leaf o n t h => rw [nots_leaf false o n t h]; rfl
  | not o n t h => rw [nots_not, nots_leaf _ o n t h]; rfl
  | row o k h _ _ _ ih =>
    rw [nots_row false o k h]
    have : k.map (Nr.nots false) = k := by
      conv => rhs; rw [← List.map_id k]
      exact List.map_congr_left fun x hx => ih x hx
    rw [this]
    rfl

theorem flat_parts {o : Int} : ∀ {k : List Ft}, (∀ x ∈ k, In x) → (∀ x ∈ k, x.op ≠ o) → k.flatMap (part o) = k
  | [], _, _ => rfl
  | x :: r, h, ho => by
    rw [List.flatMap_cons, flat_parts (fun y hy => h y (by simp [hy])) (fun y hy => ho y (by simp [hy]))]
    unfold part
    rw [if_neg (ho x (by simp)), if_pos (h x (by simp)).op]
    rfl

theorem In.fold {f : Ft} (h : In f) : fold f = f := by
  induction h with
  | leaf o n t h => rw [Nr.fold, if_pos (by omega)]
  | not o n t h => rw [Nr.fold, if_pos (by omega)]
  | row o k h h2 hk ho ih =>
    rw [Nr.fold, if_neg (by omega), foldL_map]
    have hm : k.map Nr.fold = k := by
      conv => rhs; rw [← List.map_id k]
      exact List.map_congr_left fun x hx => ih x hx
    rw [hm]
    unfold foldRow
    have hn : k.find? (fun x => decide (x.op = counts o)) = none := by
      rw [List.find?_eq_none]
      intro x hx
      have := (hk x hx).op
      unfold counts
      simp only [decide_eq_true_eq]
      split <;> omega
    rw [hn, flat_parts hk ho]
    match k, h2 with
    | x :: y :: r, _ => rfl

/-- The plain form of a plain form is it again. -/
theorem Pl.norm {f : Ft} (h : Pl f) : norm f = f := by
  unfold Nr.norm
  rcases h with rfl | rfl | h
  · rw [nots_const false 1 (.inl rfl)]; rfl
  · rw [nots_const false 2 (.inr rfl)]; rfl
  · rw [h.nots, h.fold]

theorem norm_norm {f : Ft} (h : Gd f) : norm (norm f) = norm f := (norm_pl h).norm

/-- Not not changes nothing. -/
theorem norm_notnot (f : Ft) : norm (.mk 6 e0 e0 [.mk 6 e0 e0 [f]]) = norm f := by
  unfold norm
  rw [nots_not, nots_not]
  rfl

/-! ### It keeps the same -/

/-! ### How great it is, its texts, and that a filter of numbers can be -/

theorem counts_map_le {g : Ft → Ft} {c : Nat} : ∀ {k : List Ft}, (∀ x ∈ k, (g x).count ≤ c * x.count) → Ft.counts (k.map g) ≤ c * Ft.counts k
  | [], _ => by rw [List.map_nil, Ft.counts]; omega
  | x :: r, h => by
    rw [List.map_cons, Ft.counts, Ft.counts, Nat.mul_add]
    have h1 := h x (by simp)
    have h2 := counts_map_le (g := g) (c := c) (k := r) (fun y hy => h y (List.mem_cons_of_mem _ hy))
    omega

theorem nots_count {f : Ft} (h : Gd f) : ∀ b, (nots b f).count ≤ 2 * f.count := by
  induction h with
  | const o h => intro b; rw [nots_const b o h]; simp [Ft.count, Ft.counts]
  | leaf o n t h => intro b; rw [nots_leaf b o n t h]; cases b <;> simp [Ft.count, Ft.counts]
  | not x _ ih =>
    intro b
    rw [nots_not, Ft.count, Ft.counts, Ft.counts]
    have := ih (!b)
    omega
  | row o k h _ _ ih =>
    intro b
    rw [nots_row b o k h, Ft.count, Ft.count]
    have := counts_map_le (g := nots b) (c := 2) (fun x hx => ih x hx b)
    omega

theorem counts_append : ∀ (a b : List Ft), Ft.counts (a ++ b) = Ft.counts a + Ft.counts b
  | [], b => by rw [List.nil_append, Ft.counts]; omega
  | x :: r, b => by rw [List.cons_append, Ft.counts, Ft.counts, counts_append r b]; omega

theorem part_count (o : Int) (x : Ft) : Ft.counts (part o x) ≤ x.count := by
  obtain ⟨o', n, t, k⟩ := x
  unfold part
  split
  · show Ft.counts k ≤ _
    rw [Ft.count]
    omega
  · split
    · rw [Ft.counts, Ft.counts]; omega
    · rw [Ft.counts]; omega

theorem parts_count (o : Int) : ∀ xs : List Ft, Ft.counts (xs.flatMap (part o)) ≤ Ft.counts xs
  | [] => by rw [List.flatMap_nil]; exact Nat.le_refl _
  | x :: r => by
    rw [List.flatMap_cons, counts_append, Ft.counts]
    have := part_count o x
    have := parts_count o r
    omega

theorem counts_one {x : Ft} : ∀ {k : List Ft}, x ∈ k → x.count ≤ Ft.counts k
  | [], h => by simp at h
  | y :: r, h => by
    rw [Ft.counts]
    rcases List.mem_cons.1 h with rfl | h
    · omega
    · have := counts_one h
      omega

theorem foldRow_count (o : Int) (xs : List Ft) : (foldRow o xs).count ≤ 1 + Ft.counts xs := by
  unfold foldRow
  split
  · rename_i x hf
    have := counts_one (List.mem_of_find?_eq_some hf)
    omega
  · have hp := parts_count o xs
    split
    · rw [Ft.count, Ft.counts]; omega
    · rename_i x he
      rw [he, Ft.counts, Ft.counts] at hp
      omega
    · rename_i x y r he
      rw [he] at hp
      rw [Ft.count]
      omega

theorem fold_count {f : Ft} (h : Nn f) : (fold f).count ≤ f.count := by
  induction h with
  | const o h => rw [fold, if_pos (by omega)]; exact Nat.le_refl _
  | leaf o n t h => rw [fold, if_pos (by omega)]; exact Nat.le_refl _
  | not o n t h => rw [fold, if_pos (by omega)]; exact Nat.le_refl _
  | row o k h hk ih =>
    rw [fold, if_neg (by omega), foldL_map, Ft.count]
    have h1 := foldRow_count o (k.map fold)
    have h2 := counts_map_le (g := fold) (c := 1) (k := k) (fun x hx => by have := ih x hx; omega)
    omega

theorem norm_count {f : Ft} (h : Gd f) : (norm f).count ≤ 2 * f.count := Nat.le_trans (fold_count (nots_nn h false)) (nots_count h false)

/-- A filter of numbers can be. -/
theorem make_gd (l : List Int) : ∀ (d p : Nat), Gd (Ft.make l d p).1
  | 0, p => by
    have hn : ∀ p, (Ft.next l 2 p).1 < 2 := fun p => Ft.next_lt (by decide)
    unfold Ft.make
    simp only
    repeat' split
    · exact .leaf _ _ _ (by omega)
    · exact .leaf _ _ _ (by omega)
    · exact .leaf _ _ _ (by omega)
    · exact .const _ (by have := hn (Ft.next l 5 p).2; omega)
  | d + 1, p => by
    have hn : ∀ p, (Ft.next l 2 p).1 < 2 := fun p => Ft.next_lt (by decide)
    unfold Ft.make
    simp only
    repeat' split
    · exact .leaf _ _ _ (by omega)
    · exact .leaf _ _ _ (by omega)
    · exact .leaf _ _ _ (by omega)
    · exact .const _ (by have := hn (Ft.next l 8 p).2; omega)
    · exact .not _ (make_gd l d _)
    · exact .row _ _ (by have := hn (Ft.next l 8 p).2; omega) (by rw [Ft.several_length]; omega) (fun x hx => Ft.several_all (fun q => make_gd l d q) _ _ x hx)

end Nr
end Go.Proofs.YtkckgjanfiiieaaGreatDoor
