/-
  Ins14.
-/
import Derived.Test.YtoobjjpheegmdaaGreatK22
import Derived.Test.YtoobjjpheegmdaaGreatK25
namespace Go.Proofs.YtoobjjpheegmdaaGreat.E4
open Go.RowKit Go
theorem FirstI.one {p : Ent → Bool} {CH : List (Value × List (Value × Ent))} {k m : Nat} (h : FirstI p CH k) (g : FirstI p CH m) : k = m := by
  have key : ∀ {a b : Nat}, FirstI p CH a → FirstI p CH b → a ≤ b := fun {a b} h g => Nat.le_of_not_lt fun hlt => by
    have h1 := h.1
    have h2 := h.2.1 b (by omega) hlt
    rw [g.2.2 b (by omega) (Nat.le_refl _)] at h2
    cases h2
  exact Nat.le_antisymm (key h g) (key g h)
theorem BsI.one {es : List Ent} {e : Ent} {k m : Nat} (h : BsI es e k) (g : BsI es e m) : k = m := by
  have key : ∀ {a b : Nat}, BsI es e a → BsI es e b → a ≤ b := fun {a b} h g => Nat.le_of_not_lt fun hlt => by
    have h1 := h.1
    exact g.2.2 b (by omega) (Nat.le_refl _) (h.2.1 b (by omega) hlt)
  exact Nat.le_antisymm (key h g) (key g h)
theorem strict_at {l : List Ent} (h : Strict entC l) {i j : Nat} (hj : j < l.length) (hij : i < j) : entC (l[i]'(by omega)) l[j] = -1 := List.pairwise_iff_getElem.1 h i j (by omega) hj hij
theorem BsI.some {es : List Ent} (hs : Strict entC es) (e : Ent) : ∃ i, BsI es e i := by
  obtain ⟨k, h1, h2, h3, _⟩ := bound_of (P := fun i => decide (entC (es.getD i ⟨0, [], ⟨#[]⟩⟩) e ≠ -1)) es.length fun i j hij hj hp => by
    have hi : i < es.length := by omega
    simp only [List.getD, hi, hj, List.getElem?_eq_getElem, Option.getD_some, decide_eq_true_eq] at hp ⊢
    intro h
    by_cases hq : i = j
    · subst hq; exact hp h
    · exact hp (entC_lc.tr _ _ _ (strict_at hs hj (by omega)) h)
  exact ⟨k, h1, fun j hj hlt => by have := h2 j hlt; simpa [List.getD, hj] using this, fun j hj hle => by have := h3 j hle hj; simpa [List.getD, hj] using this⟩
theorem ins_strict {A M B : List Ent} {e : Ent} {p : Nat} (h : Strict entC (A ++ (M ++ B))) (hA : ∀ a ∈ A, entC a e = -1) (hB : ∀ b ∈ B, entC e b = -1) (hp : BsI M e p) :
    (e ∈ A ++ (M ++ B) ↔ e ∈ M) ∧ (e ∉ M → Strict entC (A ++ ((M.take p ++ e :: M.drop p) ++ B))) := by
  have hne : ∀ {a b : Ent}, entC a b = -1 → a ≠ b := fun {a b} h e => by rw [e, entC_lc.refl] at h; cases h
  refine ⟨?_, fun hm => ?_⟩
  · simp only [List.mem_append]
    exact ⟨fun h => h.elim (fun h => absurd rfl (hne (hA e h))) fun h => h.elim id fun h => absurd rfl (hne (hB e h)), fun h => .inr (.inl h)⟩
  · unfold Strict at h ⊢
    rw [List.pairwise_append, List.pairwise_append] at h
    obtain ⟨h1, ⟨h2, h3, h4⟩, h5⟩ := h
    have hlo : ∀ x ∈ M.take p, entC x e = -1 := fun x hx => by
      obtain ⟨j, hj, rfl⟩ := List.getElem_of_mem hx
      rw [List.length_take] at hj
      rw [List.getElem_take]
      exact hp.2.1 j (by omega) (by omega)
    have hhi : ∀ x ∈ M.drop p, entC e x = -1 := fun x hx => by
      obtain ⟨j, hj, rfl⟩ := List.getElem_of_mem hx
      rw [List.length_drop] at hj
      have h6 := hp.2.2 (p + j) (by omega) (by omega)
      rw [List.getElem_drop]
      have h7 := entC_lc.tri M[p + j] e
      have h8 := entC_lc.neg M[p + j] e
      have h9 : entC M[p + j] e ≠ 0 := fun h0 => hm (by rw [← entC_lc.eq _ _ h0]; exact List.getElem_mem _)
      omega
    have h2' := h2
    rw [← List.take_append_drop p M, List.pairwise_append] at h2'
    obtain ⟨k1, k2, k3⟩ := h2'
    have hmem : ∀ x, x ∈ M.take p ++ e :: M.drop p → x = e ∨ x ∈ M := fun x hx => by
      simp only [List.mem_append, List.mem_cons] at hx
      rcases hx with hx | rfl | hx
      · exact .inr (List.mem_of_mem_take hx)
      · exact .inl rfl
      · exact .inr (List.mem_of_mem_drop hx)
    rw [List.pairwise_append, List.pairwise_append, List.pairwise_append, List.pairwise_cons]
    refine ⟨h1, ⟨⟨k1, ⟨hhi, k2⟩, fun a ha b hb => ?_⟩, h3, fun a ha b hb => ?_⟩, fun a ha b hb => ?_⟩
    · simp only [List.mem_cons] at hb
      rcases hb with rfl | hb
      · exact hlo a ha
      · exact k3 a ha b hb
    · rcases hmem a ha with rfl | ha
      · exact hB b hb
      · exact h4 a ha b hb
    · simp only [List.mem_append] at hb
      rcases hb with hb | hb
      · rcases hmem b (by simp only [List.mem_append]; exact hb) with rfl | hb
        · exact hA a ha
        · exact h5 a ha b (List.mem_append_left _ hb)
      · exact h5 a ha b (List.mem_append_right _ hb)
theorem flat_split {CH : List (Value × List (Value × Ent))} {i : Nat} (hi : i < CH.length) : flatC CH = flatC (CH.take i) ++ (entsC CH[i] ++ flatC (CH.drop (i + 1))) := by
  conv => lhs; rw [← List.take_append_drop i CH, List.drop_eq_getElem_cons hi]
  rw [flatC_append, flatC_cons]
theorem chunk_len {G L : Nat → Prop} {w : World} {lv cv : Value} {ls : List Lab} {CH : List (Value × List (Value × Ent))} (h : FlowAt G L w lv cv ls CH) {i : Nat} (hi : i < CH.length) : CH[i].2.length ≤ (flatC CH).length := by
  rw [flat_split hi, List.length_append, List.length_append, entsC_len]; omega
theorem chunks_len : ∀ {CH : List (Value × List (Value × Ent))}, (∀ x ∈ CH, x.2 ≠ []) → CH.length ≤ (flatC CH).length
  | [], _ => Nat.zero_le _
  | x :: CH, h => by
    rw [flatC_cons, List.length_append, entsC_len, List.length_cons]
    have h1 := chunks_len (CH := CH) fun y hy => h y (List.mem_cons_of_mem _ hy)
    have h2 := List.length_pos_iff.2 (h x (List.mem_cons_self ..))
    omega
theorem last_le {x : Value × List (Value × Ent)} (hs : Strict entC (entsC x)) {e : Ent} (he : e ∈ entsC x) : e = lastE x ∨ entC e (lastE x) = -1 := by
  have hne : x.2 ≠ [] := fun h => by unfold entsC at he; rw [h] at he; cases he
  obtain ⟨j, hj, rfl⟩ := List.getElem_of_mem he
  have hl := entsC_len x
  have hlast : (entsC x)[(entsC x).length - 1]'(by omega) = lastE x := by
    unfold lastE
    rw [← lastR_get hne (by have := List.length_pos_iff.2 hne; omega)]
    unfold entsC
    simp only [List.getElem_map, List.length_map]
  by_cases hq : j = (entsC x).length - 1
  · left; subst hq; exact hlast
  · right
    rw [← hlast]
    exact strict_at hs (by omega) (by omega)
theorem strict_mid {A M B : List Ent} (h : Strict entC (A ++ (M ++ B))) : Strict entC M := by
  unfold Strict at h ⊢
  rw [List.pairwise_append, List.pairwise_append] at h
  exact h.2.1.1
theorem lasts_rise {CH : List (Value × List (Value × Ent))} (hs : Strict entC (flatC CH)) (hn : ∀ x ∈ CH, x.2 ≠ []) {i j : Nat} (hj : j < CH.length) (hij : i < j) : entC (lastE (CH[i]'(by omega))) (lastE CH[j]) = -1 := by
  have hi : i < CH.length := by omega
  rw [flat_split hi] at hs
  unfold Strict at hs
  rw [List.pairwise_append, List.pairwise_append] at hs
  refine hs.2.1.2.2 _ (lastE_mem (hn _ (List.getElem_mem hi))) _ (mem_flatC.2 ⟨CH[j], ?_, lastE_mem (hn _ (List.getElem_mem hj))⟩)
  rw [List.mem_iff_getElem]
  exact ⟨j - (i + 1), by rw [List.length_drop]; omega, by rw [List.getElem_drop]; congr 1; omega⟩
theorem add_mono {CH : List (Value × List (Value × Ent))} (hs : Strict entC (flatC CH)) (hn : ∀ x ∈ CH, x.2 ≠ []) (e : Ent) (i j : Nat) (hi : i < CH.length) (hj : j < CH.length) (hij : i ≤ j) (hp : decide (entC e (lastE CH[i]) ≤ 0) = true) : decide (entC e (lastE CH[j]) ≤ 0) = true := by
  by_cases hq : i = j
  · subst hq; exact hp
  · have h1 := lasts_rise hs hn hj (show i < j by omega)
    simp only [decide_eq_true_eq] at hp ⊢
    have h2 := entC_lc.tri e (lastE CH[i])
    by_cases h3 : entC e (lastE CH[i]) = 0
    · rw [entC_lc.eq _ _ h3, h1]; decide
    · rw [entC_lc.tr _ _ _ (by omega) h1]; decide
theorem FirstI.some {CH : List (Value × List (Value × Ent))} (p : Ent → Bool) (hm : ∀ i j (hi : i < CH.length) (hj : j < CH.length), i ≤ j → p (lastE CH[i]) = true → p (lastE CH[j]) = true) : ∃ k, FirstI p CH k := by
  obtain ⟨k, h1, h2, h3, _⟩ := bound_of (P := fun i => p (lastE (CH.getD i (.slice Option.none 0 0, [])))) CH.length fun i j hij hj hp => by
    have hi : i < CH.length := by omega
    simp only [List.getD, hi, hj, List.getElem?_eq_getElem, Option.getD_some] at hp ⊢
    exact hm i j hi hj hij hp
  exact ⟨k, h1, fun i hi h => by have := h2 i h; simpa [List.getD, hi] using this, fun i hi h => by have := h3 i h hi; simpa [List.getD, hi] using this⟩
theorem chunk_of {CH : List (Value × List (Value × Ent))} {e : Ent} {k : Nat} (hs : Strict entC (flatC CH)) (hn : ∀ x ∈ CH, x.2 ≠ []) (h0 : CH ≠ []) (hk : FirstI (fun x => decide (entC e x ≤ 0)) CH k) (hi : min k (CH.length - 1) < CH.length) :
    (∀ a ∈ flatC (CH.take (min k (CH.length - 1))), entC a e = -1) ∧ ∀ b ∈ flatC (CH.drop (min k (CH.length - 1) + 1)), entC e b = -1 := by
  have hpos := List.length_pos_iff.2 h0
  refine ⟨fun a ha => ?_, fun b hb => ?_⟩
  · obtain ⟨x, hx, hax⟩ := mem_flatC.1 ha
    obtain ⟨j, hj, rfl⟩ := List.getElem_of_mem hx
    rw [List.length_take] at hj
    have hj2 : j < CH.length := by omega
    rw [List.getElem_take] at hax
    have h1 := hk.2.1 j hj2 (by omega)
    simp only [decide_eq_false_iff_not] at h1
    have h2 := entC_lc.tri e (lastE CH[j])
    have h3 := entC_lc.neg e (lastE CH[j])
    have h4 : entC (lastE CH[j]) e = -1 := by omega
    have hsj : Strict entC (entsC CH[j]) := by
      rw [flat_split hj2] at hs
      exact strict_mid hs
    rcases last_le hsj hax with rfl | h5
    · exact h4
    · exact entC_lc.tr _ _ _ h5 h4
  · by_cases hkl : k < CH.length
    · have hm : min k (CH.length - 1) = k := by omega
      rw [hm] at hb
      have h1 := hk.2.2 k hkl (Nat.le_refl _)
      simp only [decide_eq_true_eq] at h1
      have h2 := entC_lc.tri e (lastE CH[k])
      have h3 : entC (lastE CH[k]) b = -1 := by
        rw [flat_split hkl] at hs
        unfold Strict at hs
        rw [List.pairwise_append, List.pairwise_append] at hs
        exact hs.2.1.2.2 _ (lastE_mem (hn _ (List.getElem_mem hkl))) _ hb
      by_cases h4 : entC e (lastE CH[k]) = 0
      · rw [entC_lc.eq _ _ h4]; exact h3
      · exact entC_lc.tr _ _ _ (by omega) h3
    · exfalso
      rw [List.drop_of_length_le (by omega)] at hb
      simp [flatC] at hb
end Go.Proofs.YtoobjjpheegmdaaGreat.E4
