/-
  WHICH LINES A FILTER KEEPS: no program in it. Pieces between blanks; a filter of whatever kind.
-/
import Derived.Test.YtidjodplimkmgaaHw
import Derived.Test.YtidjodplimkmgaaTrA
import Derived.Lib.IndexMore
namespace Go.Proofs.Ytidjodplimkmgaa
open Go

/-- The pieces between a text's blanks: what stands ahead of the next one, and what comes behind. -/
def pcs : List UInt8 → List UInt8 → List (List UInt8)
  | cur, [] => [cur]
  | cur, c :: r => if c = 32 then cur :: pcs [] r else pcs (cur ++ [c]) r

theorem pcs_blank (cur r : List UInt8) : pcs cur (32 :: r) = cur :: pcs [] r := by rw [pcs, if_pos rfl]
theorem pcs_other (cur r : List UInt8) {c : UInt8} (h : c ≠ 32) : pcs cur (c :: r) = pcs (cur ++ [c]) r := by rw [pcs, if_neg h]

theorem pcs_free : ∀ (a cur r : List UInt8), (32 : UInt8) ∉ a → pcs cur (a ++ r) = pcs (cur ++ a) r
  | [], cur, r, _ => by simp
  | c :: a, cur, r, h => by
    rw [List.mem_cons, not_or] at h
    rw [List.cons_append, pcs_other _ _ (fun e => h.1 e.symm), pcs_free a (cur ++ [c]) r h.2, List.append_assoc]
    rfl

theorem pcs_split (a b cur : List UInt8) (h : (32 : UInt8) ∉ a) : pcs cur (a ++ 32 :: b) = (cur ++ a) :: pcs [] b := by rw [pcs_free a cur _ h, pcs_blank]
theorem pcs_none (a cur : List UInt8) (h : (32 : UInt8) ∉ a) : pcs cur a = [cur ++ a] := by
  have := pcs_free a cur [] h
  rw [List.append_nil] at this
  rw [this, pcs]

/-- Does a text stand between two blanks, or a line's ends? -/
def hasPiece (line want : ByteArray) : Bool := (pcs [] line.data.toList).any fun p => decide (p = want.data.toList)

theorem occ_blank (l : List UInt8) (i : Nat) (h : i < l.length) : Lib.occAt l [32] i = decide (l[i] = 32) := by
  unfold Lib.occAt
  rw [List.drop_eq_getElem_cons h]
  rw [List.isPrefixOf_cons_cons, List.isPrefixOf_nil_left, Bool.and_true]
  rw [Bool.eq_iff_iff, beq_iff_eq, decide_eq_true_iff]
  exact eq_comm

/-- What strings.Cut answers at a blank. -/
theorem cut_blank (l : List UInt8) : ((32 : UInt8) ∉ l ∧ Lib.cut l [32] = (l, [], false)) ∨ ∃ a b, l = a ++ 32 :: b ∧ (32 : UInt8) ∉ a ∧ Lib.cut l [32] = (a, b, true) := by
  rcases Lib.index_spec l [32] with ⟨h1, h2⟩ | ⟨i, h1, h2, h3, h4⟩
  · refine .inl ⟨fun hm => ?_, ?_⟩
    · obtain ⟨i, hi, e⟩ := List.getElem_of_mem hm
      have := h2 i (Nat.le_of_lt hi)
      rw [occ_blank l i hi, e] at this
      simp at this
    · unfold Lib.cut
      rw [h1, if_neg (by decide)]
  · have hi : i < l.length := by
      have := Lib.index_room l [32] (by omega)
      simp only [List.length_cons, List.length_nil] at this
      omega
    have he : l[i] = 32 := by
      rw [occ_blank l i hi] at h3
      simpa using h3
    refine .inr ⟨l.take i, l.drop (i + 1), ?_, fun hm => ?_, ?_⟩
    · conv => lhs; rw [← List.take_append_drop i l, List.drop_eq_getElem_cons hi, he]
    · obtain ⟨j, hj, e⟩ := List.getElem_of_mem hm
      rw [List.length_take] at hj
      rw [List.getElem_take] at e
      have := h4 j (by omega)
      rw [occ_blank l j (by omega), e] at this
      simp at this
    · unfold Lib.cut
      rw [h1, if_pos (by omega)]
      simp

/-- A filter's texts are no longer than so much, and each is of some kind. -/
inductive Fit : Ft → Prop
  | mk (o : Int) (n t : ByteArray) (k : List Ft) (ho : o ≠ 0) (hn : n.size ≤ 10000) (ht : t.size ≤ 10000) (hk : ∀ x ∈ k, Fit x) : Fit (.mk o n t k)

theorem Fit.op {o : Int} {n t : ByteArray} {k : List Ft} (h : Fit (.mk o n t k)) : o ≠ 0 := by cases h; assumption
theorem Fit.name {o : Int} {n t : ByteArray} {k : List Ft} (h : Fit (.mk o n t k)) : n.size ≤ 10000 := by cases h; assumption
theorem Fit.text {o : Int} {n t : ByteArray} {k : List Ft} (h : Fit (.mk o n t k)) : t.size ≤ 10000 := by cases h; assumption
theorem Fit.kids {o : Int} {n t : ByteArray} {k : List Ft} (h : Fit (.mk o n t k)) : ∀ x ∈ k, Fit x := by cases h; assumption

theorem texts_fit : ∀ x ∈ Ft.texts, x.size ≤ 10000 := by decide
theorem names_fit : ∀ x ∈ Ft.names, x.size ≤ 10000 := by decide
theorem getD_fit {l : List ByteArray} (h : ∀ x ∈ l, x.size ≤ 10000) (c : Nat) : (l.getD c ⟨#[]⟩).size ≤ 10000 := by
  rw [List.getD_eq_getElem?_getD]
  cases hc : l[c]? with
  | none => exact Nat.zero_le _
  | some x => exact h x (List.mem_of_getElem? hc)

theorem fit_leaf (o : Int) (n t : ByteArray) (ho : o ≠ 0) (hn : n.size ≤ 10000) (ht : t.size ≤ 10000) : Fit (.mk o n t []) := .mk o n t [] ho hn ht (fun _ h => by cases h)
theorem fit_nil : (⟨#[]⟩ : ByteArray).size ≤ 10000 := Nat.zero_le _

/-- A filter of numbers is one. -/
theorem make_fit (l : List Int) : ∀ (d p : Nat), Fit (Ft.make l d p).1
  | 0, p => by
    unfold Ft.make
    simp only
    repeat' split
    · exact fit_leaf _ _ _ (by omega) fit_nil (getD_fit texts_fit _)
    · exact fit_leaf _ _ _ (by omega) fit_nil (getD_fit texts_fit _)
    · exact fit_leaf _ _ _ (by omega) (getD_fit names_fit _) (getD_fit texts_fit _)
    · exact fit_leaf _ _ _ (by omega) fit_nil fit_nil
  | d + 1, p => by
    unfold Ft.make
    simp only
    repeat' split
    · exact fit_leaf _ _ _ (by omega) fit_nil (getD_fit texts_fit _)
    · exact fit_leaf _ _ _ (by omega) fit_nil (getD_fit texts_fit _)
    · exact fit_leaf _ _ _ (by omega) (getD_fit names_fit _) (getD_fit texts_fit _)
    · exact fit_leaf _ _ _ (by omega) fit_nil fit_nil
    · exact .mk _ _ _ _ (by omega) fit_nil fit_nil (fun x hx => by rw [List.mem_singleton] at hx; rw [hx]; exact make_fit l d _)
    · exact .mk _ _ _ _ (by omega) fit_nil fit_nil (fun x hx => Ft.several_all (fun q => make_fit l d q) _ _ x hx)

mutual
/-- Does a filter keep a line? -/
def keeps (line : ByteArray) : Ft → Bool
  | .mk o n t k =>
    if o = 1 then true else if o = 3 then H3.hasB line t else if o = 4 then Lib.contains line.data.toList t.data.toList
    else if o = 5 then hasPiece line (n ++ ⟨#[61]⟩ ++ t) else if o = 6 then (match keepsL line k with | [] => false | b :: _ => !b)
    else if o = 7 then (keepsL line k).all id else if o = 8 then (keepsL line k).any id else false
/-- Which ones of several do? -/
def keepsL (line : ByteArray) : List Ft → List Bool
  | [] => []
  | x :: r => keeps line x :: keepsL line r
end

theorem keepsL_map (line : ByteArray) : ∀ k : List Ft, keepsL line k = k.map (keeps line)
  | [] => by rw [keepsL]; rfl
  | x :: r => by rw [keepsL, keepsL_map line r]; rfl

variable (line n t : ByteArray) (k : List Ft)
theorem keeps_true : keeps line (.mk 1 n t k) = true := by rw [keeps]; rfl
theorem keeps_word : keeps line (.mk 3 n t k) = H3.hasB line t := by rw [keeps]; rfl
theorem keeps_has : keeps line (.mk 4 n t k) = Lib.contains line.data.toList t.data.toList := by rw [keeps]; rfl
theorem keeps_field : keeps line (.mk 5 n t k) = hasPiece line (n ++ ⟨#[61]⟩ ++ t) := by rw [keeps]; rfl
theorem keeps_not0 : keeps line (.mk 6 n t []) = false := by rw [keeps]; rfl
theorem keeps_not (x : Ft) : keeps line (.mk 6 n t (x :: k)) = !keeps line x := by rw [keeps, keepsL]; rfl
theorem keeps_and : keeps line (.mk 7 n t k) = k.all (keeps line) := by rw [keeps, keepsL_map, List.all_map]; rfl
theorem keeps_or : keeps line (.mk 8 n t k) = k.any (keeps line) := by rw [keeps, keepsL_map, List.any_map]; rfl
theorem keeps_none {o : Int} (h : o ≠ 1 ∧ o ≠ 3 ∧ o ≠ 4 ∧ o ≠ 5 ∧ o ≠ 6 ∧ o ≠ 7 ∧ o ≠ 8) : keeps line (.mk o n t k) = false := by
  rw [keeps, if_neg h.1, if_neg h.2.1, if_neg h.2.2.1, if_neg h.2.2.2.1, if_neg h.2.2.2.2.1, if_neg h.2.2.2.2.2.1, if_neg h.2.2.2.2.2.2]

end Go.Proofs.Ytidjodplimkmgaa
