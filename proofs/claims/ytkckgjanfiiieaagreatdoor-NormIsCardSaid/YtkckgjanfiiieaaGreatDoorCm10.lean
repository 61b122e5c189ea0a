/-
  MATCHERS, EACH ONCE: slices.Compact.
-/
import Derived.Test.YtkckgjanfiiieaaGreatDoorSm10
import Derived.Test.YtkckgjanfiiieaaGreatDoorRk10
import Derived.Shelf.SlSortCmp.QuietGrown
namespace Go.Proofs.YtkckgjanfiiieaaGreatDoor
open Go.RowKit Go

/-- Rising, each once. -/
def Strict (c : Mt → Mt → Int) (l : List Mt) : Prop := l.Pairwise fun a b => c a b = -1

/-- out is es in order, each once. -/
def Sorts (c : Mt → Mt → Int) (es out : List Mt) : Prop := Strict c out ∧ ∀ x, x ∈ out ↔ x ∈ es

theorem strict_unique {c : Mt → Mt → Int} (hc : LC c) : ∀ {l m : List Mt}, Strict c l → Strict c m → (∀ x, x ∈ l ↔ x ∈ m) → l = m
  | [], [], _, _, _ => rfl
  | [], b :: m, _, _, h => by
    have := (h b).2 (by simp)
    simp at this
  | a :: l, [], _, _, h => by
    have := (h a).1 (by simp)
    simp at this
  | a :: l, b :: m, hl, hm, h => by
    obtain ⟨h1, h2⟩ := List.pairwise_cons.1 hl
    obtain ⟨k1, k2⟩ := List.pairwise_cons.1 hm
    have irr : ∀ x, c x x ≠ -1 := fun x e => by rw [hc.refl] at e; omega
    have hab : a = b := by
      have ha := (h a).1 (by simp)
      have hb := (h b).2 (by simp)
      rcases List.mem_cons.1 ha with e | ha
      · exact e
      · rcases List.mem_cons.1 hb with e | hb
        · exact e.symm
        · exact absurd (hc.tr _ _ _ (h1 b hb) (k1 a ha)) (irr a)
    subst hab
    have : l = m := strict_unique hc h2 k2 fun x => by
      constructor
      · intro hx
        rcases List.mem_cons.1 ((h x).1 (by simp [hx])) with e | hx'
        · exact absurd (h1 x hx) (by rw [e]; exact irr a)
        · exact hx'
      · intro hx
        rcases List.mem_cons.1 ((h x).2 (by simp [hx])) with e | hx'
        · exact absurd (k1 x hx) (by rw [e]; exact irr a)
        · exact hx'
    rw [this]

theorem Sorts.unique {c : Mt → Mt → Int} (hc : LC c) {es fs l m : List Mt} (h : Sorts c es l) (k : Sorts c fs m) (he : ∀ x, x ∈ es ↔ x ∈ fs) : l = m :=
  strict_unique hc h.1 k.1 fun x => (h.2 x).trans ((he x).trans (k.2 x).symm)

theorem Strict.nil (c : Mt → Mt → Int) : Strict c [] := List.Pairwise.nil
theorem Strict.one (c : Mt → Mt → Int) (x : Mt) : Strict c [x] := List.pairwise_singleton _ _

/-- One more behind the last one. -/
theorem Strict.snoc {c : Mt → Mt → Int} (hc : LC c) {l : List Mt} {y : Mt} (h : Strict c (l ++ [y])) {x : Mt} (hx : c y x = -1) : Strict c (l ++ [y] ++ [x]) := by
  refine List.pairwise_append.2 ⟨h, List.pairwise_singleton _ _, fun a ha b hb => ?_⟩
  rw [List.mem_singleton.1 hb]
  rcases List.mem_append.1 ha with ha | ha
  · exact hc.tr _ _ _ ((List.pairwise_append.1 h).2.2 a ha y (by simp)) hx
  · rw [List.mem_singleton.1 ha]; exact hx

theorem mem_zeroCells {cells : Array Value} {n : Nat} {u : Value} (h : u ∈ (Builtin.zeroCells cells n).toList) : u ∈ cells.toList := by
  unfold Builtin.zeroCells at h
  rw [Array.toList_map, List.mem_map] at h
  obtain ⟨i, hi, rfl⟩ := h
  rw [Array.toList_range, List.mem_range] at hi
  have hp : 0 < cells.size := by
    rcases Nat.eq_zero_or_pos cells.size with h0 | h0
    · rw [h0, Nat.mul_zero] at hi; omega
    · exact h0
  have hlt := Nat.mod_lt i hp
  rw [getElem!_pos cells _ hlt]
  exact Array.mem_toList_iff.2 (Array.getElem_mem _)

/-- clear(s), s a slice of n > 0 elements of k cells each. -/
theorem run_clear_k (w : World) (t e ty : TypeId) (z : Value) (k : Nat) (ht : Tryz.prog.underlying t = some (.slice e)) (hv : ∀ w, (zeroValue e).run Tryz.prog w = .ok z w) (hz : z.cells.size = k) (h1 : ∀ u ∈ z.cells.toList, u.oneCell' = true) (b o n c : Nat) (hn : 0 < n)
    (hc : ∀ j, j < n * k → (w.cell? ⟨b, o + j, none⟩).isSome = true) (hf : ∀ j, j < n * k → w.frozen? ⟨b, o + j, none⟩ = false) :
    (Builtin.clear_ #[t] ty #[.slice (some ⟨b, o, none⟩) n c]).run Tryz.prog w = .ok (.tuple #[]) (w.setCells b o (Builtin.zeroCells z.cells n).toList) := by
  have hl : (Builtin.zeroCells z.cells n).toList.length = n * k := by rw [Array.length_toList, size_zeroCells, hz]
  have hst := run_storeCells_cells (P := Tryz.prog) b o (Builtin.zeroCells z.cells n).toList 0 w (by rw [hl]; simpa using hc) (by rw [hl]; simpa using hf) (by intro v hv'; exact h1 v (mem_zeroCells hv'))
  simp only [Nat.add_zero] at hst
  obtain ⟨m, rfl⟩ : ∃ m, n = m + 1 := ⟨n - 1, by omega⟩
  simp [Builtin.clear_, run_underlying ht, hv, hst]

/-- Matchers as they lie. -/
def MatAt (w : World) (b : Nat) (R : List Mt) : Prop :=
  ∀ i (h : i < R.length), w.cell? ⟨b, i * 3, none⟩ = some (.string R[i].name) ∧ w.cell? ⟨b, i * 3 + 1, none⟩ = some (.bool R[i].not) ∧ w.cell? ⟨b, i * 3 + 2, none⟩ = some (.string R[i].value)

theorem MatAt.lay {w w' : World} {b : Nat} {R : List Mt} (h : MatAt w b R) (hb : b < w.heap.size) (hl : Lay w w') : MatAt w' b R := fun i hi => by
  obtain ⟨h0, h1, h2⟩ := h i hi
  exact ⟨(hl.cell hb).trans h0, (hl.cell hb).trans h1, (hl.cell hb).trans h2⟩

theorem MatAt.cells {w : World} {b : Nat} {R : List Mt} (h : MatAt w b R) (j : Nat) (u : Value) (hu : (flatM R)[j]? = some u) : w.cell? ⟨b, j, none⟩ = some u := by
  have hj : j < (flatM R).length := (List.getElem?_eq_some_iff.1 hu).1
  rw [flatM_length] at hj
  have hi : j / 3 < R.length := by omega
  have hjd : j = j / 3 * 3 + j % 3 := by omega
  have hg := flatM_get R (j / 3) hi (j % 3) (by omega)
  rw [← hjd, hu] at hg
  obtain ⟨h0, h1, h2⟩ := h (j / 3) hi
  have hm : j % 3 = 0 ∨ j % 3 = 1 ∨ j % 3 = 2 := by omega
  rcases hm with hm | hm | hm
  · rw [hm] at hg hjd
    rw [show j = j / 3 * 3 by omega, h0]
    simpa [matC] using hg.symm
  · rw [hm] at hg hjd
    rw [show j = j / 3 * 3 + 1 by omega, h1]
    simpa [matC] using hg.symm
  · rw [hm] at hg hjd
    rw [show j = j / 3 * 3 + 2 by omega, h2]
    simpa [matC] using hg.symm

theorem Rk.matAt {G : Nat → Prop} {w : World} {v : Value} {n : Nat} {R : List Mt} (h : Rk 3 G w v n (flatM R)) :
    n = R.length ∧ ((v = .slice none 0 0 ∧ R = []) ∨ ∃ g cap, v = .slice (some ⟨g, 0, none⟩) R.length cap ∧ G g ∧ g < w.heap.size ∧ R.length ≤ cap ∧ cap ≤ maxLen ∧ MatAt w g R ∧ (∀ j, j < cap * 3 → (w.cell? ⟨g, j, none⟩).isSome = true ∧ w.frozen? ⟨g, j, none⟩ = false)) := by
  obtain ⟨h0, h⟩ := h
  rw [flatM_length] at h0
  have hn : n = R.length := by omega
  subst hn
  refine ⟨rfl, ?_⟩
  rcases h with ⟨h1, h2⟩ | ⟨g, cap, h1, h2, h3, h4, h5, h6, h7⟩
  · exact .inl ⟨h1, List.eq_nil_of_length_eq_zero h2⟩
  · refine .inr ⟨g, cap, h1, h2, h3, h4, h5, fun i hi => ?_, h7⟩
    have get : ∀ c, c < 3 → w.cell? ⟨g, i * 3 + c, none⟩ = (matC R[i])[c]? := fun c hc => by
      rw [← flatM_get R i hi c hc]
      exact h6 _ (by rw [flatM_length]; omega)
    exact ⟨(get 0 (by omega)).trans (by simp [matC]), (get 1 (by omega)).trans (by simp [matC]), (get 2 (by omega)).trans (by simp [matC])⟩

theorem eq0 {a b : Mt} : decide (a = b) = decide (mtC a b = 0) := by
  rw [decide_eq_decide]
  exact ⟨fun e => by rw [e]; exact mtC_lc.refl _, fun e => mtC_lc.eq _ _ e⟩

theorem neq_mt (x m : Mt) (w : World) : (binOp .neq 45 (.agg #[.string x.name, .bool x.not, .string x.value]) (.agg #[.string m.name, .bool m.not, .string m.value])).run Tryz.prog w = .ok (.bool (!decide (x = m))) w := by
  obtain ⟨xn, xb, xv⟩ := x
  obtain ⟨mn, mb, mv⟩ := m
  by_cases hn : xn = mn
  · subst hn
    by_cases hb : xb = mb
    · subst hb
      by_cases hv : xv = mv
      · subst hv
        rw [decide_eq_true rfl]
        go_simp
      · have ht : (xv.toList == mv.toList) = false := by rw [beq_eq_false_iff_ne]; exact fun e => hv (toList_inj4 _ _ e)
        rw [decide_eq_false (fun e => hv (by injection e))]
        go_simp
    · have ht : (xb == mb) = false := by simp [hb]
      rw [decide_eq_false (fun e => hb (by injection e))]
      go_simp
  · have ht : (xn.toList == mn.toList) = false := by rw [beq_eq_false_iff_ne]; exact fun e => hn (toList_inj4 _ _ e)
    rw [decide_eq_false (fun e => hn (by injection e))]
    go_simp

/-- How far the second loop is: C stands at the front, the first i0 + k have been looked at. -/
structure CI (w : World) (g cap : Nat) (R : List Mt) (i0 i k : Nat) (C : List Mt) (wr : World) : Prop where
  len : C.length = i
  lt : i + 1 ≤ i0 + k
  one : 1 ≤ i0
  pos : 1 ≤ k
  le : i0 + k ≤ R.length
  keep : Keep (fun b => b = g) w wr
  done : MatAt wr g C
  rest : ∀ j (h : j < R.length), i0 + k ≤ j + 1 → wr.cell? ⟨g, j * 3, none⟩ = some (.string R[j].name) ∧ wr.cell? ⟨g, j * 3 + 1, none⟩ = some (.bool R[j].not) ∧ wr.cell? ⟨g, j * 3 + 2, none⟩ = some (.string R[j].value)
  ex : ∀ j, j < cap * 3 → (wr.cell? ⟨g, j, none⟩).isSome = true ∧ wr.frozen? ⟨g, j, none⟩ = false
  strict : Strict mtC C
  mem : ∀ x, x ∈ C ↔ x ∈ R.take (i0 + k)
  last : ∃ C0 z, C = C0 ++ [z] ∧ ∀ h : i0 + k - 1 < R.length, z = R[i0 + k - 1]

theorem CI.lay {w : World} {g cap : Nat} {R : List Mt} {i0 i k : Nat} {C : List Mt} {wr wr' : World} (h : CI w g cap R i0 i k C wr) (hg : g < w.heap.size) (hl : Lay wr wr') : CI w g cap R i0 i k C wr' := by
  have hgw : g < wr.heap.size := Nat.lt_of_lt_of_le hg h.keep.size
  refine ⟨h.len, h.lt, h.one, h.pos, h.le, h.keep.trans hl.keep, h.done.lay hgw hl, fun j hj hk => ?_, fun j hj => ?_, h.strict, h.mem, h.last⟩
  · obtain ⟨a, b, c⟩ := h.rest j hj hk
    exact ⟨(hl.cell hgw).trans a, (hl.cell hgw).trans b, (hl.cell hgw).trans c⟩
  · rw [World.cell?_of_block (a := ⟨g, j, none⟩) (hl.block hgw), World.frozen?_of_block (a := ⟨g, j, none⟩) (hl.block hgw)]
    exact h.ex j hj

theorem take_snocM {R : List Mt} {n : Nat} (h : n < R.length) : R.take (n + 1) = R.take n ++ [R[n]] := List.take_succ_eq_append_getElem h

theorem CI.skip {w : World} {g cap : Nat} {R : List Mt} {i0 i k : Nat} {C : List Mt} {wr : World} (h : CI w g cap R i0 i k C wr) (hlt : i0 + k < R.length) (he : R[i0 + k] = R[i0 + k - 1]'(by omega)) : CI w g cap R i0 i (k + 1) C wr := by
  have hl := h.lt
  have ho := h.one
  refine ⟨h.len, by omega, h.one, by omega, by omega, h.keep, h.done, fun j hj hk => h.rest j hj (by omega), h.ex, h.strict, fun x => ?_, ?_⟩
  · rw [h.mem x, ← Nat.add_assoc, take_snocM hlt, List.mem_append, List.mem_singleton]
    constructor
    · exact .inl
    · rintro (hx | rfl)
      · exact hx
      · rw [he]
        exact List.mem_take_iff_getElem.2 ⟨i0 + k - 1, by omega, rfl⟩
  · obtain ⟨C0, z, hC, hz⟩ := h.last
    refine ⟨C0, z, hC, fun h' => ?_⟩
    rw [hz (by omega)]
    simp only [← Nat.add_assoc, Nat.add_sub_cancel]
    exact he.symm

theorem CI.put {w : World} {g cap : Nat} {R : List Mt} {i0 i k : Nat} {C : List Mt} {wr : World} (h : CI w g cap R i0 i k C wr) (hg : g < w.heap.size) (hle : R.length ≤ cap) (hlt : i0 + k < R.length) (hw : WeakM R) (he : ¬ R[i0 + k] = R[i0 + k - 1]'(by omega)) :
    CI w g cap R i0 (i + 1) (k + 1) (C ++ [R[i0 + k]]) (wr.setCells g (i * 3) (matC R[i0 + k])) := by
  have hl := h.lt
  have ho := h.one
  have hgw : g < wr.heap.size := Nat.lt_of_lt_of_le hg h.keep.size
  have hcl := h.len
  have out : ∀ o, (o < i * 3 ∨ i * 3 + 3 ≤ o) → (wr.setCells g (i * 3) (matC R[i0 + k])).cell? ⟨g, o, none⟩ = wr.cell? ⟨g, o, none⟩ := fun o ho => World.cell?_setCells_out g _ _ _ _ (fun _ _ => by show o < i * 3 ∨ i * 3 + (matC R[i0 + k]).length ≤ o; simpa [matC] using ho)
  have inn : ∀ j, j < 3 → (wr.setCells g (i * 3) (matC R[i0 + k])).cell? ⟨g, i * 3 + j, none⟩ = (matC R[i0 + k])[j]? := fun j hj => by
    have hj' : j < (matC R[i0 + k]).length := by simpa [matC] using hj
    rw [World.cell?_setCells_in g (matC R[i0 + k]) (i * 3) wr (fun j hj => (h.ex _ (by simp [matC] at hj; omega)).1) j hj', List.getElem?_eq_getElem hj']
  refine ⟨by simp [hcl], by omega, h.one, by omega, by omega, h.keep.trans (keep_setCells _ _ _ _ _ rfl), fun j hj => ?_, fun j hj hk => ?_, fun j hj => ⟨?_, ?_⟩, ?_, fun x => ?_, ?_⟩
  · rw [List.length_append, List.length_singleton, hcl] at hj
    by_cases hji : j < i
    · rw [List.getElem_append_left (by omega)]
      obtain ⟨a, b, c⟩ := h.done j (by omega)
      exact ⟨(out _ (by omega)).trans a, (out _ (by omega)).trans b, (out _ (by omega)).trans c⟩
    · obtain rfl : j = i := by omega
      rw [List.getElem_append_right (by omega)]
      simp only [hcl, Nat.sub_self, List.getElem_singleton]
      exact ⟨by simpa [matC] using inn 0 (by omega), by simpa [matC] using inn 1 (by omega), by simpa [matC] using inn 2 (by omega)⟩
  · obtain ⟨a, b, c⟩ := h.rest j hj (by omega)
    exact ⟨(out _ (by omega)).trans a, (out _ (by omega)).trans b, (out _ (by omega)).trans c⟩
  · by_cases hin : i * 3 ≤ j ∧ j < i * 3 + 3
    · have := inn (j - i * 3) (by omega)
      rw [show i * 3 + (j - i * 3) = j by omega] at this
      rw [this, List.getElem?_eq_getElem (by simp [matC]; omega)]
      rfl
    · rw [out j (by omega)]
      exact (h.ex j hj).1
  · rw [World.frozen?_setCells]
    exact (h.ex j hj).2
  · obtain ⟨C0, z, hC, hz⟩ := h.last
    have hs := h.strict
    rw [hC] at hs ⊢
    refine Strict.snoc mtC_lc hs ?_
    rw [hz (by omega)]
    have hwk : mtC R[i0 + k] (R[i0 + k - 1]'(by omega)) ≠ -1 := List.pairwise_iff_getElem.1 hw (i0 + k - 1) (i0 + k) (by omega) (by omega) (by omega)
    have hn := mtC_lc.neg R[i0 + k] (R[i0 + k - 1]'(by omega))
    have ht := mtC_lc.tri R[i0 + k] (R[i0 + k - 1]'(by omega))
    have he0 : mtC R[i0 + k] (R[i0 + k - 1]'(by omega)) ≠ 0 := fun e => he (mtC_lc.eq _ _ e)
    omega
  · rw [List.mem_append, h.mem x, ← Nat.add_assoc, take_snocM hlt, List.mem_append]
  · refine ⟨C, R[i0 + k], rfl, fun h' => ?_⟩
    simp only [← Nat.add_assoc, Nat.add_sub_cancel]

theorem CI.fin {w : World} {g cap : Nat} {R : List Mt} {i0 k : Nat} {C : List Mt} {wr : World} (h : CI w g cap R i0 C.length k C wr) (hk : i0 + k = R.length) (hle : R.length ≤ cap) (Z : List Value) (hZ : Z.length = (R.length - C.length) * 3) :
    MatAt (wr.setCells g (C.length * 3) Z) g C ∧ (∀ j, j < cap * 3 → ((wr.setCells g (C.length * 3) Z).cell? ⟨g, j, none⟩).isSome = true ∧ (wr.setCells g (C.length * 3) Z).frozen? ⟨g, j, none⟩ = false) ∧
      Sorts mtC R C ∧ Keep (fun b => b = g) w (wr.setCells g (C.length * 3) Z) := by
  have hl := h.lt
  have out : ∀ o, (o < C.length * 3 ∨ C.length * 3 + Z.length ≤ o) → (wr.setCells g (C.length * 3) Z).cell? ⟨g, o, none⟩ = wr.cell? ⟨g, o, none⟩ := fun o ho => World.cell?_setCells_out g _ _ _ _ (fun _ _ => ho)
  have hkeep : Keep (fun b => b = g) w (wr.setCells g (C.length * 3) Z) := h.keep.trans (keep_setCells _ _ _ _ _ rfl)
  refine ⟨fun j hj => ?_, fun j hj => ⟨?_, ?_⟩, ⟨h.strict, fun x => ?_⟩, hkeep⟩
  · obtain ⟨a, b, c⟩ := h.done j hj
    exact ⟨(out _ (by omega)).trans a, (out _ (by omega)).trans b, (out _ (by omega)).trans c⟩
  · by_cases hin : C.length * 3 ≤ j ∧ j < C.length * 3 + Z.length
    · have hj' : j - C.length * 3 < Z.length := by omega
      have := World.cell?_setCells_in g Z (C.length * 3) wr (fun q hq => (h.ex _ (by omega)).1) (j - C.length * 3) hj'
      rw [show C.length * 3 + (j - C.length * 3) = j by omega] at this
      rw [this]
      rfl
    · rw [out j (by omega)]
      exact (h.ex j hj).1
  · rw [World.frozen?_setCells]
    exact (h.ex j hj).2
  · rw [h.mem x, hk, List.take_length]

theorem CI.start {w : World} {g cap : Nat} {R : List Mt} {i0 : Nat} {wr : World} (hg : g < w.heap.size) (h1 : 1 ≤ i0) (hlt : i0 < R.length) (hraw : MatAt w g R) (hf : ∀ j, j < cap * 3 → (w.cell? ⟨g, j, none⟩).isSome = true ∧ w.frozen? ⟨g, j, none⟩ = false) (hl : Lay w wr)
    (hs : Strict mtC (R.take i0)) (he : R[i0] = R[i0 - 1]'(by omega)) : CI w g cap R i0 i0 1 (R.take i0) wr := by
  have hcell : MatAt wr g R := hraw.lay hg hl
  refine ⟨by rw [List.length_take]; omega, by omega, h1, Nat.le_refl _, by omega, hl.keep, fun j hj => ?_, fun j hj _ => hcell j hj, fun j hj => ?_, hs, fun x => ?_, ?_⟩
  · rw [List.length_take] at hj
    rw [List.getElem_take]
    exact hcell j (by omega)
  · rw [World.cell?_of_block (a := ⟨g, j, none⟩) (hl.block hg), World.frozen?_of_block (a := ⟨g, j, none⟩) (hl.block hg)]
    exact hf j hj
  · rw [take_snocM hlt, List.mem_append, List.mem_singleton]
    constructor
    · exact .inl
    · rintro (hx | rfl)
      · exact hx
      · rw [he]
        exact List.mem_take_iff_getElem.2 ⟨i0 - 1, by omega, rfl⟩
  · refine ⟨R.take (i0 - 1), R[i0 - 1]'(by omega), ?_, fun h' => ?_⟩
    · have := List.take_succ_eq_append_getElem (l := R) (i := i0 - 1) (by omega)
      rwa [show i0 - 1 + 1 = i0 by omega] at this
    · simp only [Nat.add_sub_cancel]
      rw [he]

set_option maxHeartbeats 8000000 in
set_option maxRecDepth 100000 in
theorem compactM_some {w : World} {g cap : Nat} {R : List Mt} (hg : g < w.heap.size) (hle : R.length ≤ cap) (hraw : MatAt w g R) (hf : ∀ j, j < cap * 3 → (w.cell? ⟨g, j, none⟩).isSome = true ∧ w.frozen? ⟨g, j, none⟩ = false)
    (hn : R.length ≤ 1000000) (hw : WeakM R) :
    Calls Tryz.prog 35 #[.slice (some ⟨g, 0, none⟩) R.length cap] w fun e w' =>
      ∃ R', e = .returned (.slice (some ⟨g, 0, none⟩) R'.length cap) ∧ R'.length ≤ cap ∧ MatAt w' g R' ∧ (∀ j, j < cap * 3 → (w'.cell? ⟨g, j, none⟩).isSome = true ∧ w'.frozen? ⟨g, j, none⟩ = false) ∧ Sorts mtC R R' ∧ Keep (fun b => b = g) w w' := by
  have HRAW := Lib.hid hraw
  have HF := Lib.hid hf
  have HW := Lib.hid hw
  clear hraw hf hw
  by_cases h2 : R.length < 2
  · have d2 : decide ((R.length : Int) < 2) = true := by simp; omega
    go_enter Tryz.func35, Tryz.ntmps35
    go_wp2_with fail
    go_ret
    refine ⟨R, rfl, hle, HRAW.out, HF.out, ⟨?_, fun x => Iff.rfl⟩, Keep.refl _ _⟩
    match R, h2 with
    | [], _ => exact Strict.nil _
    | [a], _ => exact Strict.one _ _
  · have d2 : decide ((R.length : Int) < 2) = false := by simp; omega
    go_enter Tryz.func35, Tryz.ntmps35
    go_wp2_with fail
    clear d2
    go_loopw [3] (fun vi wr => ∃ k : Nat, vi = .int .i64 k ∧ 1 ≤ k ∧ k ≤ R.length ∧ Lay w wr ∧ Strict mtC (R.take k)) (fun vi _ => R.length - (intOf vi).toNat)
    case atStart =>
      refine ⟨1, rfl, Nat.le_refl _, by omega, Keep.refl _ _, ?_⟩
      match R, h2 with
      | a :: r, _ => exact Strict.one _ _
    case round =>
      obtain ⟨k, rfl, hk1, hk, hl, hs⟩ := hrel
      have HS := Lib.hid hs
      have HL := Lib.hid hl
      clear hs
      by_cases hkl : k < R.length
      · have e1 := HRAW.out k hkl
        have e0 := HRAW.out (k - 1) (by omega)
        obtain ⟨x, hxk⟩ : ∃ x, R[k] = x := ⟨_, rfl⟩
        obtain ⟨y, hyk⟩ : ∃ y, R[k - 1]'(by omega) = y := ⟨_, rfl⟩
        rw [hxk] at e1
        rw [hyk] at e0
        have hgw : g < wr.heap.size := Nat.lt_of_lt_of_le hg hl.size
        have f0 := fun n os => cell_grown (n := n) (os := os) (by exact hgw) ((hl.cell hg).trans e1.1)
        have f1 := fun n os => cell_grown (n := n) (os := os) (by exact hgw) ((hl.cell hg).trans e1.2.1)
        have f2 := fun n os => cell_grown (n := n) (os := os) (by exact hgw) ((hl.cell hg).trans e1.2.2)
        have y0 := fun n os => cell_grown (n := n) (os := os) (by exact hgw) ((hl.cell hg).trans e0.1)
        have y1 := fun n os => cell_grown (n := n) (os := os) (by exact hgw) ((hl.cell hg).trans e0.2.1)
        have y2 := fun n os => cell_grown (n := n) (os := os) (by exact hgw) ((hl.cell hg).trans e0.2.2)
        have kk : ((k : Int) - 1).toNat = k - 1 := by omega
        have b1 : (0 : Int) ≤ (k : Int) - 1 := by omega
        have b2 : (k : Int) - 1 < (R.length : Int) := by omega
        have b3 : (1 : Int) ≤ (k : Int) := by omega
        have kw : IntKind.i64.wrap ((k : Int) - 1) = (k : Int) - 1 := by rw [IntKind.wrap_i64]; omega
        have hmx : Tryz.prog.follows .mixedOrders = true := by kernel_rfl
        have heq0 := fun W => eql_mt x y W
        clear e1 e0 hl
        have HX := Lib.hid hxk
        have HY := Lib.hid hyk
        clear hxk hyk
        by_cases heq : x = y
        · rw [decide_eq_true heq] at heq0
          have hci := CI.start (cap := cap) (wr := wr) hg hk1 hkl HRAW.out HF.out HL.out HS.out (by rw [HX.out, HY.out]; exact heq)
          have HCI := Lib.hid hci
          clear hci heq
          go_wp2_with fail
          go_quiet_grown (fail)
          have hci2 := HCI.out.lay hg (Lay.of_grown nq osq)
          have HCI2 := Lib.hid hci2
          clear hci2 f0 f1 f2 y0 y1 y2 heq0
          go_wp2_with fail
          go_loopw [3, 5] (fun vi vk wr => ∃ (i j : Nat) (C : List Mt), vi = .int .i64 i ∧ vk = .int .i64 j ∧ CI w g cap R k i j C wr) (fun _ vk _ => R.length - (intOf vk).toNat)
          case atStart => exact ⟨k, 1, _, rfl, rfl, HCI2.out⟩
          case round =>
            obtain ⟨i, j, C, rfl, rfl, hci⟩ := hrel
            have HCI := Lib.hid hci
            have hi1 := hci.lt
            have hj1 := hci.le
            have hj0 := hci.pos
            have hgw : g < wr.heap.size := Nat.lt_of_lt_of_le hg hci.keep.size
            clear hci
            by_cases hjl : k + j < R.length
            · have rx := HCI.out.rest (k + j) hjl (by omega)
              have ry := HCI.out.rest (k + j - 1) (by omega) (by omega)
              obtain ⟨x', hxk'⟩ : ∃ x', R[k + j] = x' := ⟨_, rfl⟩
              obtain ⟨y', hyk'⟩ : ∃ y', R[k + j - 1]'(by omega) = y' := ⟨_, rfl⟩
              rw [hxk'] at rx
              rw [hyk'] at ry
              rw [show (k + j) * 3 = k * 3 + j * 3 by omega] at rx
              rw [show (k + j - 1) * 3 = k * 3 + (j - 1) * 3 by omega] at ry
              have f0 := fun n os => cell_grown (n := n) (os := os) (by exact hgw) rx.1
              have f1 := fun n os => cell_grown (n := n) (os := os) (by exact hgw) rx.2.1
              have f2 := fun n os => cell_grown (n := n) (os := os) (by exact hgw) rx.2.2
              have z0 := fun n os => cell_grown (n := n) (os := os) (by exact hgw) ry.1
              have z1 := fun n os => cell_grown (n := n) (os := os) (by exact hgw) ry.2.1
              have z2 := fun n os => cell_grown (n := n) (os := os) (by exact hgw) ry.2.2
              have jj : ((j : Int) - 1).toNat = j - 1 := by omega
              have jw : IntKind.i64.wrap ((j : Int) - 1) = (j : Int) - 1 := by rw [IntKind.wrap_i64]; omega
              have jb0 : (j : Int) < ((R.length - k : Nat) : Int) := by omega
              have jb1 : (0 : Int) ≤ (j : Int) - 1 := by omega
              have jb2 : (j : Int) - 1 < ((R.length - k : Nat) : Int) := by omega
              have jb3 : (1 : Int) ≤ (j : Int) := by omega
              have heq0 := fun W => neq_mt x' y' W
              have HX2 := Lib.hid hxk'
              have HY2 := Lib.hid hyk'
              clear rx ry hxk' hyk'
              by_cases heq2 : x' = y'
              · rw [decide_eq_true heq2] at heq0
                have HN := Lib.hid (HCI.out.skip hjl (by rw [HX2.out, HY2.out]; exact heq2))
                clear heq2
                go_wp2_with fail
                go_quiet_grown (fail)
                have HN2 := Lib.hid (HN.out.lay hg (Lay.of_grown nq osq))
                clear f0 f1 f2 z0 z1 z2 heq0
                go_wp2_with fail
                go_roundw
                case rel => exact ⟨i, j + 1, C, rfl, by go_num, HN2.out⟩
                case measure => simp [intOf]; omega
              · have hp := Lib.hid heq2
                have d0 := decide_eq_false heq2
                rw [d0] at heq0
                clear d0 heq2
                go_wp2_with fail
                go_quiet_grown (fail)
                have HN2 := Lib.hid (HCI.out.lay hg (Lay.of_grown nq osq))
                have HPUT := Lib.hid (HN2.out.put hg hle hjl HW.out (by rw [HX2.out, HY2.out]; exact hp.out))
                obtain ⟨p0, q0⟩ := HN2.out.ex (i * 3) (by omega)
                obtain ⟨p1, q1⟩ := HN2.out.ex (i * 3 + 1) (by omega)
                obtain ⟨p2, q2⟩ := HN2.out.ex (i * 3 + 2) (by omega)
                obtain ⟨o0, r0⟩ := Option.isSome_iff_exists.1 p0
                obtain ⟨o1, r1⟩ := Option.isSome_iff_exists.1 p1
                obtain ⟨o2, r2⟩ := Option.isSome_iff_exists.1 p2
                have g0 := f0 nq osq
                have g1 := f1 nq osq
                have g2 := f2 nq osq
                have ib : (i : Int) < (R.length : Int) := by omega
                clear f0 f1 f2 z0 z1 z2 heq0 p0 p1 p2
                generalize Sort.grow (wr.drewN nq) osq = W2 at *
                go_wp2_with fail
                go_roundw
                case rel =>
                  have h := HPUT.out
                  rw [HX2.out] at h
                  exact ⟨i + 1, j + 1, _, by go_num, by go_num, h⟩
                case measure => simp [intOf]; omega
            · have hjn : k + j = R.length := by omega
              have hlen := HCI.out.len
              subst hlen
              have hclr : ∀ ty, (Builtin.clear_ #[28] ty #[.slice (some ⟨g, C.length * 3, none⟩) (R.length - C.length) (cap - C.length)]).run Tryz.prog wr = _ := fun ty =>
                run_clear_k wr 28 45 ty (.agg #[.string ⟨#[]⟩, .bool false, .string ⟨#[]⟩]) 3 Tryz.underlying28 Tryz.zeroValue45 rfl (fun u hu => by
                  simp only [Value.cells, List.mem_cons, List.not_mem_nil, or_false] at hu
                  rcases hu with rfl | rfl | rfl <;> rfl) g (C.length * 3) (R.length - C.length) (cap - C.length) (by omega)
                  (fun q hq => (HCI.out.ex _ (by omega)).1) (fun q hq => (HCI.out.ex _ (by omega)).2)
              have ib : (C.length : Int) ≤ (R.length : Int) := by omega
              have ic : C.length ≤ cap := by omega
              have HFIN := Lib.hid (HCI.out.fin hjn hle (Builtin.zeroCells #[.string ⟨#[]⟩, .bool false, .string ⟨#[]⟩] (R.length - C.length)).toList (by rw [Array.length_toList, size_zeroCells]; rfl))
              go_wp2_with fail
              go_ret
              obtain ⟨h1, h2, h4, h5⟩ := HFIN.out
              exact ⟨C, rfl, by omega, h1, h2, h4, h5⟩
        · have d0 := decide_eq_false heq
          rw [d0] at heq0
          clear d0
          have HNE := Lib.hid heq
          clear heq
          go_wp2_with fail
          go_quiet_grown (fail)
          have HLG := Lib.hid (Keep.trans HL.out (Lay.of_grown nq osq))
          clear f0 f1 f2 y0 y1 y2 heq0
          go_wp2_with fail
          go_roundw
          case rel =>
            refine ⟨k + 1, by go_num, by omega, by omega, HLG.out, ?_⟩
            rw [take_snocM hkl]
            have hst := HS.out
            have e : R.take k = R.take (k - 1) ++ [R[k - 1]'(by omega)] := by
              have := List.take_succ_eq_append_getElem (l := R) (i := k - 1) (by omega)
              rwa [show k - 1 + 1 = k by omega] at this
            rw [e] at hst ⊢
            refine Strict.snoc mtC_lc hst ?_
            rw [HX.out, HY.out]
            have hwk := List.pairwise_iff_getElem.1 HW.out (k - 1) k (by omega) (by omega) (by omega)
            rw [HX.out, HY.out] at hwk
            have hn := mtC_lc.neg x y
            have ht := mtC_lc.tri x y
            have h0 : mtC x y ≠ 0 := fun e => HNE.out (mtC_lc.eq _ _ e)
            omega
          case measure => simp [intOf]; omega
      · obtain rfl : k = R.length := by omega
        rw [List.take_length] at HS
        go_wp2_with fail
        go_ret
        refine ⟨R, rfl, hle, HRAW.out.lay hg HL.out, fun j hj => ?_, ⟨HS.out, fun x => Iff.rfl⟩, HL.out.keep⟩
        rw [World.cell?_of_block (a := ⟨g, j, none⟩) (HL.out.block hg), World.frozen?_of_block (a := ⟨g, j, none⟩) (HL.out.block hg)]
        exact HF.out j hj

set_option maxHeartbeats 1000000 in
theorem compact0_any (cap : Nat) (a : Option Addr) (w : World) : Calls Tryz.prog 35 #[.slice a 0 cap] w fun e w' => e = .returned (.slice a 0 cap) ∧ w' = w := by
  go_enter Tryz.func35, Tryz.ntmps35
  go_wp2
  go_ret
  exact ⟨rfl, rfl⟩

/-- slices.Compact of matchers. -/
theorem compactM_any {G : Nat → Prop} {w : World} {v : Value} {R : List Mt} (h : Rk 3 G w v R.length (flatM R)) (hn : R.length ≤ 1000000) (hw : WeakM R) :
    Calls Tryz.prog 35 #[v] w fun e w' => ∃ v' R', e = .returned v' ∧ Rk 3 G w' v' R'.length (flatM R') ∧ (∀ b, At v' b → At v b) ∧ Sorts mtC R R' ∧ Keep (At v) w w' := by
  obtain ⟨_, ⟨rfl, rfl⟩ | ⟨g, cap, rfl, hG, hg, hle, hm, hraw, hf⟩⟩ := h.matAt
  · exact (compact0_any 0 none w).mono fun e w' ⟨he, hw⟩ => ⟨_, [], he, Rk.nil _ _ _, (fun _ h => h), ⟨Strict.nil _, fun x => Iff.rfl⟩, by rw [hw]; exact Keep.refl _ _⟩
  · have hat : ∀ n b, At (.slice (some ⟨g, 0, none⟩) n cap) b ↔ b = g := fun n b => by
      constructor
      · rintro ⟨n, c, e⟩
        simp only [Value.slice.injEq, Option.some.injEq, Addr.mk.injEq, and_true] at e
        exact e.1.symm
      · rintro rfl
        exact ⟨_, _, rfl⟩
    refine (compactM_some hg hle hraw hf hn hw).mono ?_
    rintro e w' ⟨R', rfl, h1, h2, h3, h5, h6⟩
    refine ⟨_, R', rfl, ⟨by rw [flatM_length], .inr ⟨g, cap, rfl, hG, Nat.lt_of_lt_of_le hg h6.size, h1, hm, fun j hj => ?_, h3⟩⟩, (fun b hb => (hat _ b).2 ((hat _ b).1 hb)), h5, h6.into fun b _ e => (hat _ b).2 e⟩
    have hj' := List.getElem?_eq_getElem hj
    rw [hj']
    exact h2.cells j _ hj'

end Go.Proofs.YtkckgjanfiiieaaGreatDoor
