/-
  Ins14, Bt14, Se14.
-/
import Derived.Test.YtoobjjpheegmdaaGreatJ20
import Derived.Test.YtoobjjpheegmdaaGreatJ23
namespace Go.Proofs.YtoobjjpheegmdaaGreat.E4
open Go.RowKit Go
theorem FirstI.one {p : Ent → Bool} {CH : List (Value × List (Value × Ent))} {k m : Nat} (h : FirstI p CH k) (g : FirstI p CH m) : k = m := by
  have key : ∀ {a b : Nat}, FirstI p CH a → FirstI p CH b → a ≤ b := fun {a b} h g => Nat.le_of_not_lt fun hlt => by
    have h1 := h.1
    have h2 := h.2.1 b (by omega) hlt
    rw [g.2.2 b (by omega) (Nat.le_refl _)] at h2
    cases h2
  exact Nat.le_antisymm (key h g) (key g h)
theorem BsI.one {es : List Ent} {e : Ent} {k m : Nat} (h : BsI es e k) (g : BsI es e m) : k = m := by
  have key : ∀ {a b : Nat}, BsI es e a → BsI es e b → a ≤ b := fun {a b} h g => Nat.le_of_not_lt fun hlt => by
    have h1 := h.1
    exact g.2.2 b (by omega) (Nat.le_refl _) (h.2.1 b (by omega) hlt)
  exact Nat.le_antisymm (key h g) (key g h)
theorem strict_at {l : List Ent} (h : Strict entC l) {i j : Nat} (hj : j < l.length) (hij : i < j) : entC (l[i]'(by omega)) l[j] = -1 := List.pairwise_iff_getElem.1 h i j (by omega) hj hij
theorem BsI.some {es : List Ent} (hs : Strict entC es) (e : Ent) : ∃ i, BsI es e i := by
  obtain ⟨k, h1, h2, h3, _⟩ := bound_of (P := fun i => decide (entC (es.getD i ⟨0, [], ⟨#[]⟩⟩) e ≠ -1)) es.length fun i j hij hj hp => by
    have hi : i < es.length := by omega
    simp only [List.getD, hi, hj, List.getElem?_eq_getElem, Option.getD_some, decide_eq_true_eq] at hp ⊢
    intro h
    by_cases hq : i = j
    · subst hq; exact hp h
    · exact hp (entC_lc.tr _ _ _ (strict_at hs hj (by omega)) h)
  exact ⟨k, h1, fun j hj hlt => by have := h2 j hlt; simpa [List.getD, hj] using this, fun j hj hle => by have := h3 j hle hj; simpa [List.getD, hj] using this⟩
theorem ins_strict {A M B : List Ent} {e : Ent} {p : Nat} (h : Strict entC (A ++ (M ++ B))) (hA : ∀ a ∈ A, entC a e = -1) (hB : ∀ b ∈ B, entC e b = -1) (hp : BsI M e p) :
    (e ∈ A ++ (M ++ B) ↔ e ∈ M) ∧ (e ∉ M → Strict entC (A ++ ((M.take p ++ e :: M.drop p) ++ B))) := by
  have hne : ∀ {a b : Ent}, entC a b = -1 → a ≠ b := fun {a b} h e => by rw [e, entC_lc.refl] at h; cases h
  refine ⟨?_, fun hm => ?_⟩
  · simp only [List.mem_append]
    exact ⟨fun h => h.elim (fun h => absurd rfl (hne (hA e h))) fun h => h.elim id fun h => absurd rfl (hne (hB e h)), fun h => .inr (.inl h)⟩
  · unfold Strict at h ⊢
    rw [List.pairwise_append, List.pairwise_append] at h
    obtain ⟨h1, ⟨h2, h3, h4⟩, h5⟩ := h
    have hlo : ∀ x ∈ M.take p, entC x e = -1 := fun x hx => by
      obtain ⟨j, hj, rfl⟩ := List.getElem_of_mem hx
      rw [List.length_take] at hj
      rw [List.getElem_take]
      exact hp.2.1 j (by omega) (by omega)
    have hhi : ∀ x ∈ M.drop p, entC e x = -1 := fun x hx => by
      obtain ⟨j, hj, rfl⟩ := List.getElem_of_mem hx
      rw [List.length_drop] at hj
      have h6 := hp.2.2 (p + j) (by omega) (by omega)
      rw [List.getElem_drop]
      have h7 := entC_lc.tri M[p + j] e
      have h8 := entC_lc.neg M[p + j] e
      have h9 : entC M[p + j] e ≠ 0 := fun h0 => hm (by rw [← entC_lc.eq _ _ h0]; exact List.getElem_mem _)
      omega
    have h2' := h2
    rw [← List.take_append_drop p M, List.pairwise_append] at h2'
    obtain ⟨k1, k2, k3⟩ := h2'
    have hmem : ∀ x, x ∈ M.take p ++ e :: M.drop p → x = e ∨ x ∈ M := fun x hx => by
      simp only [List.mem_append, List.mem_cons] at hx
      rcases hx with hx | rfl | hx
      · exact .inr (List.mem_of_mem_take hx)
      · exact .inl rfl
      · exact .inr (List.mem_of_mem_drop hx)
    rw [List.pairwise_append, List.pairwise_append, List.pairwise_append, List.pairwise_cons]
    refine ⟨h1, ⟨⟨k1, ⟨hhi, k2⟩, fun a ha b hb => ?_⟩, h3, fun a ha b hb => ?_⟩, fun a ha b hb => ?_⟩
    · simp only [List.mem_cons] at hb
      rcases hb with rfl | hb
      · exact hlo a ha
      · exact k3 a ha b hb
    · rcases hmem a ha with rfl | ha
      · exact hB b hb
      · exact h4 a ha b hb
    · simp only [List.mem_append] at hb
      rcases hb with hb | hb
      · rcases hmem b (by simp only [List.mem_append]; exact hb) with rfl | hb
        · exact hA a ha
        · exact h5 a ha b (List.mem_append_left _ hb)
      · exact h5 a ha b (List.mem_append_right _ hb)
theorem flat_split {CH : List (Value × List (Value × Ent))} {i : Nat} (hi : i < CH.length) : flatC CH = flatC (CH.take i) ++ (entsC CH[i] ++ flatC (CH.drop (i + 1))) := by
  conv => lhs; rw [← List.take_append_drop i CH, List.drop_eq_getElem_cons hi]
  rw [flatC_append, flatC_cons]
theorem chunk_len {G L : Nat → Prop} {w : World} {lv cv : Value} {ls : List Lab} {CH : List (Value × List (Value × Ent))} (h : FlowAt G L w lv cv ls CH) {i : Nat} (hi : i < CH.length) : CH[i].2.length ≤ (flatC CH).length := by
  rw [flat_split hi, List.length_append, List.length_append, entsC_len]; omega
theorem chunks_len : ∀ {CH : List (Value × List (Value × Ent))}, (∀ x ∈ CH, x.2 ≠ []) → CH.length ≤ (flatC CH).length
  | [], _ => Nat.zero_le _
  | x :: CH, h => by
    rw [flatC_cons, List.length_append, entsC_len, List.length_cons]
    have h1 := chunks_len (CH := CH) fun y hy => h y (List.mem_cons_of_mem _ hy)
    have h2 := List.length_pos_iff.2 (h x (List.mem_cons_self ..))
    omega
theorem last_le {x : Value × List (Value × Ent)} (hs : Strict entC (entsC x)) {e : Ent} (he : e ∈ entsC x) : e = lastE x ∨ entC e (lastE x) = -1 := by
  have hne : x.2 ≠ [] := fun h => by unfold entsC at he; rw [h] at he; cases he
  obtain ⟨j, hj, rfl⟩ := List.getElem_of_mem he
  have hl := entsC_len x
  have hlast : (entsC x)[(entsC x).length - 1]'(by omega) = lastE x := by
    unfold lastE
    rw [← lastR_get hne (by have := List.length_pos_iff.2 hne; omega)]
    unfold entsC
    simp only [List.getElem_map, List.length_map]
  by_cases hq : j = (entsC x).length - 1
  · left; subst hq; exact hlast
  · right
    rw [← hlast]
    exact strict_at hs (by omega) (by omega)
theorem strict_mid {A M B : List Ent} (h : Strict entC (A ++ (M ++ B))) : Strict entC M := by
  unfold Strict at h ⊢
  rw [List.pairwise_append, List.pairwise_append] at h
  exact h.2.1.1
theorem lasts_rise {CH : List (Value × List (Value × Ent))} (hs : Strict entC (flatC CH)) (hn : ∀ x ∈ CH, x.2 ≠ []) {i j : Nat} (hj : j < CH.length) (hij : i < j) : entC (lastE (CH[i]'(by omega))) (lastE CH[j]) = -1 := by
  have hi : i < CH.length := by omega
  rw [flat_split hi] at hs
  unfold Strict at hs
  rw [List.pairwise_append, List.pairwise_append] at hs
  refine hs.2.1.2.2 _ (lastE_mem (hn _ (List.getElem_mem hi))) _ (mem_flatC.2 ⟨CH[j], ?_, lastE_mem (hn _ (List.getElem_mem hj))⟩)
  rw [List.mem_iff_getElem]
  exact ⟨j - (i + 1), by rw [List.length_drop]; omega, by rw [List.getElem_drop]; congr 1; omega⟩
theorem add_mono {CH : List (Value × List (Value × Ent))} (hs : Strict entC (flatC CH)) (hn : ∀ x ∈ CH, x.2 ≠ []) (e : Ent) (i j : Nat) (hi : i < CH.length) (hj : j < CH.length) (hij : i ≤ j) (hp : decide (entC e (lastE CH[i]) ≤ 0) = true) : decide (entC e (lastE CH[j]) ≤ 0) = true := by
  by_cases hq : i = j
  · subst hq; exact hp
  · have h1 := lasts_rise hs hn hj (show i < j by omega)
    simp only [decide_eq_true_eq] at hp ⊢
    have h2 := entC_lc.tri e (lastE CH[i])
    by_cases h3 : entC e (lastE CH[i]) = 0
    · rw [entC_lc.eq _ _ h3, h1]; decide
    · rw [entC_lc.tr _ _ _ (by omega) h1]; decide
theorem FirstI.some {CH : List (Value × List (Value × Ent))} (p : Ent → Bool) (hm : ∀ i j (hi : i < CH.length) (hj : j < CH.length), i ≤ j → p (lastE CH[i]) = true → p (lastE CH[j]) = true) : ∃ k, FirstI p CH k := by
  obtain ⟨k, h1, h2, h3, _⟩ := bound_of (P := fun i => p (lastE (CH.getD i (.slice Option.none 0 0, [])))) CH.length fun i j hij hj hp => by
    have hi : i < CH.length := by omega
    simp only [List.getD, hi, hj, List.getElem?_eq_getElem, Option.getD_some] at hp ⊢
    exact hm i j hi hj hij hp
  exact ⟨k, h1, fun i hi h => by have := h2 i h; simpa [List.getD, hi] using this, fun i hi h => by have := h3 i h hi; simpa [List.getD, hi] using this⟩
theorem chunk_of {CH : List (Value × List (Value × Ent))} {e : Ent} {k : Nat} (hs : Strict entC (flatC CH)) (hn : ∀ x ∈ CH, x.2 ≠ []) (h0 : CH ≠ []) (hk : FirstI (fun x => decide (entC e x ≤ 0)) CH k) (hi : min k (CH.length - 1) < CH.length) :
    (∀ a ∈ flatC (CH.take (min k (CH.length - 1))), entC a e = -1) ∧ ∀ b ∈ flatC (CH.drop (min k (CH.length - 1) + 1)), entC e b = -1 := by
  have hpos := List.length_pos_iff.2 h0
  refine ⟨fun a ha => ?_, fun b hb => ?_⟩
  · obtain ⟨x, hx, hax⟩ := mem_flatC.1 ha
    obtain ⟨j, hj, rfl⟩ := List.getElem_of_mem hx
    rw [List.length_take] at hj
    have hj2 : j < CH.length := by omega
    rw [List.getElem_take] at hax
    have h1 := hk.2.1 j hj2 (by omega)
    simp only [decide_eq_false_iff_not] at h1
    have h2 := entC_lc.tri e (lastE CH[j])
    have h3 := entC_lc.neg e (lastE CH[j])
    have h4 : entC (lastE CH[j]) e = -1 := by omega
    have hsj : Strict entC (entsC CH[j]) := by
      rw [flat_split hj2] at hs
      exact strict_mid hs
    rcases last_le hsj hax with rfl | h5
    · exact h4
    · exact entC_lc.tr _ _ _ h5 h4
  · by_cases hkl : k < CH.length
    · have hm : min k (CH.length - 1) = k := by omega
      rw [hm] at hb
      have h1 := hk.2.2 k hkl (Nat.le_refl _)
      simp only [decide_eq_true_eq] at h1
      have h2 := entC_lc.tri e (lastE CH[k])
      have h3 : entC (lastE CH[k]) b = -1 := by
        rw [flat_split hkl] at hs
        unfold Strict at hs
        rw [List.pairwise_append, List.pairwise_append] at hs
        exact hs.2.1.2.2 _ (lastE_mem (hn _ (List.getElem_mem hkl))) _ hb
      by_cases h4 : entC e (lastE CH[k]) = 0
      · rw [entC_lc.eq _ _ h4]; exact h3
      · exact entC_lc.tr _ _ _ (by omega) h3
    · exfalso
      rw [List.drop_of_length_le (by omega)] at hb
      simp [flatC] at hb
end Go.Proofs.YtoobjjpheegmdaaGreat.E4
namespace Go.Proofs.YtoobjjpheegmdaaGreat.E4
open Go.RowKit Go
open Go.Sort (grow)
theorem entC_tm_le {x y : Ent} (h : entC x y = -1) : x.tm ≤ y.tm := by
  unfold entC orI at h
  split at h
  · rename_i h0
    have := intC_lc.eq _ _ h0
    omega
  · have := intC_lt.1 h
    omega
def inT (src til : Int) (e : Ent) : Bool := decide (src ≤ e.tm) && decide (e.tm ≤ til)
theorem filter_gone {l : List Ent} {src til : Int} (h : ∀ x ∈ l, x.tm < src ∨ til < x.tm) : l.filter (inT src til) = [] := by
  rw [List.filter_eq_nil_iff]
  intro x hx hp
  unfold inT at hp
  simp only [Bool.and_eq_true, decide_eq_true_eq] at hp
  rcases h x hx with h | h <;> omega
theorem filter_late {A B : List Ent} {e : Ent} {src til : Int} (hs : Strict entC (A ++ e :: B)) (h : til < e.tm) : (A ++ e :: B).filter (inT src til) = A.filter (inT src til) := by
  rw [List.filter_append, filter_gone (l := e :: B), List.append_nil]
  intro x hx
  rcases List.mem_cons.1 hx with rfl | hx
  · exact .inr h
  · have h1 := (List.pairwise_cons.1 (List.pairwise_append.1 hs).2.1).1 x hx
    have := entC_tm_le h1
    exact .inr (by omega)
theorem filter_early {CH : List (Value × List (Value × Ent))} {src til : Int} {k : Nat} (hs : Strict entC (flatC CH)) (hk : FirstI (fun x => decide (src ≤ x.tm)) CH k) : (flatC (CH.take k)).filter (inT src til) = [] := by
  refine filter_gone fun x hx => ?_
  obtain ⟨c, hc, hxc⟩ := mem_flatC.1 hx
  obtain ⟨j, hj, rfl⟩ := List.getElem_of_mem hc
  rw [List.length_take] at hj
  rw [List.getElem_take] at hxc
  have h1 := hk.2.1 j (by omega) (by omega)
  simp only [decide_eq_false_iff_not] at h1
  have hsj : Strict entC (entsC (CH[j]'(by omega))) := by
    rw [flat_split (CH := CH) (i := j) (by omega)] at hs
    exact strict_mid hs
  rcases last_le hsj hxc with rfl | h2
  · exact .inl (by omega)
  · have := entC_tm_le h2
    exact .inl (by omega)
theorem betw_mono {CH : List (Value × List (Value × Ent))} (hs : Strict entC (flatC CH)) (hn : ∀ x ∈ CH, x.2 ≠ []) (src : Int) (i j : Nat) (hi : i < CH.length) (hj : j < CH.length) (hij : i ≤ j) (hp : decide (src ≤ (lastE CH[i]).tm) = true) : decide (src ≤ (lastE CH[j]).tm) = true := by
  by_cases hq : i = j
  · subst hq; exact hp
  · have h1 := entC_tm_le (lasts_rise hs hn hj (show i < j by omega))
    simp only [decide_eq_true_eq] at hp ⊢
    omega
theorem flat_take (CH : List (Value × List (Value × Ent))) (j : Nat) (hj : j < CH.length) : flatC (CH.take (j + 1)) = flatC (CH.take j) ++ entsC CH[j] := by
  rw [← List.take_append_getElem hj, flatC_append, flatC_cons]
  simp [flatC]
theorem src_entB {e : Ent} {w : World} {lv : Value} (h1 : lv.oneCell' = true) : Src Tryz.prog 3 43 (.slice (some ⟨w.heap.size, 0, none⟩) 1 1) 1 (flatR [((lv : Value), e)]) (w.alloc (.cells #[.int .i64 e.tm, lv, .string e.line] 32)) :=
  Rk.src Tryz.underlying43 (rk_new 3 w 1 (flatR [((lv : Value), e)]) 32 rfl (by omega)) (fun u hu => by
    simp only [flatR, rawC, List.append_nil, List.mem_cons, List.not_mem_nil, or_false] at hu
    rcases hu with rfl | rfl | rfl
    · rfl
    · exact h1
    · rfl)
set_option maxHeartbeats 8000000 in
set_option maxRecDepth 100000 in
theorem between_any {G L : Nat → Prop} {w : World} {lv cv : Value} {ls : List Lab} {CH : List (Value × List (Value × Ent))} {fb : Nat} {src til : Int} (hf : Bl w fb 207 #[lv, cv]) (h : FlowAt G L w lv cv ls CH) (h0 : CH ≠ []) (hLb : ∀ b, L b → b < w.heap.size) (hn : (flatC CH).length ≤ 1000) :
    Calls Tryz.prog 157 #[.pointer (some ⟨fb, 0, none⟩), .int .i64 src, .int .i64 til] w fun r w' => ∃ v', r = .returned v' ∧ ∃ S : List (Value × Ent), Rk 3 (fun b => w.heap.size ≤ b) w' v' S.length (flatR S) ∧ RawL L w' S ∧ S.map Prod.snd = (flatC CH).filter (inT src til) ∧ Lay w w' := by
  have hmx : Tryz.prog.follows .mixedOrders = true := by kernel_rfl
  obtain ⟨i24, z24, E24⟩ := elem24
  have hpos := List.length_pos_iff.2 h0
  have hcl := chunks_len h.n
  obtain ⟨gc, cc, rfl, hGc, hgc, hcc, hcm, hcs⟩ := h.c.some hpos
  obtain ⟨k, hk⟩ := FirstI.some (CH := CH) (fun x => decide (src ≤ x.tm)) (betw_mono h.s h.n src)
  have hkl := hk.1
  obtain ⟨w1, hw1⟩ : ∃ w1, w1 = w.alloc (.cells #[.int .i64 src] 3) := ⟨_, rfl⟩
  have hl1 : Lay w w1 := by rw [hw1]; exact (Keep.refl _ w).alloc _
  have hk1 : Bl w1 w.heap.size 3 #[.int .i64 src] := by rw [hw1]; exact Bl.new w 3 _
  have hb0 : w1.cell? ⟨w.heap.size, 0, none⟩ = some (.int .i64 src) := hk1.cell 0
  have HFI : Hid (Calls Tryz.prog 151 #[.pointer (some ⟨fb, 0, none⟩), .func (.func 164) #[] #[.pointer (some ⟨w.heap.size, 0, none⟩)]] w1 fun r w' => r = .returned (.int .i64 (k : Int)) ∧ Lay w1 w') := Lib.hid (by
    refine (first_any (fun x => decide (src ≤ x.tm)) 164 #[.pointer (some ⟨w.heap.size, 0, none⟩)] (enters_of Tryz.func164 (by kernel_rfl) rfl) (hf.below (lay_below hl1)) (h.lay hl1) (by omega) (betw_mono h.s h.n src) fun W hW x hx y hy => ?_).mono ?_
    · exact betw1_any ((hW.cell hk1.lt).trans hb0) (((h.r x hx y hy).lay hl1).lay hW)
    · rintro r w' ⟨k', hk', rfl, hl'⟩
      rw [hk.one hk']
      exact ⟨rfl, hl'⟩)
  have HEARLY : Hid ((flatC CH).filter (inT src til) = (flatC (CH.drop k)).filter (inT src til)) := Lib.hid (by
    conv => lhs; rw [← List.take_append_drop k CH]
    rw [flatC_append, List.filter_append, filter_early h.s hk, List.nil_append])
  have HST : Hid (Strict entC (flatC (CH.drop k))) := Lib.hid (by
    have := h.s
    rw [← List.take_append_drop k CH, flatC_append] at this
    exact (List.pairwise_append.1 this).2.1)
  have HXX : Hid (∀ X ∈ CH, ∃ (ge ce : Nat), X.1 = .slice (some ⟨ge, 0, none⟩) X.2.length ce ∧ ge < w.heap.size ∧ X.2.length ≤ 1000 ∧
      ∀ i (hi : i < X.2.length), w.cell? ⟨ge, i * 3, none⟩ = some (.int .i64 X.2[i].2.tm) ∧ w.cell? ⟨ge, i * 3 + 1, none⟩ = some X.2[i].1 ∧ w.cell? ⟨ge, i * 3 + 2, none⟩ = some (.string X.2[i].2.line) ∧ LabsAt L w X.2[i].1 X.2[i].2.labs) := Lib.hid fun X hx => by
    obtain ⟨ge, ce, hv, _, hge, _⟩ := (h.e _ hx).some (List.length_pos_iff.2 (h.n _ hx))
    obtain ⟨j, hj, rfl⟩ := List.getElem_of_mem hx
    have hle := chunk_len h hj
    refine ⟨ge, ce, hv, hge, by omega, fun i hi => ?_⟩
    obtain ⟨x0, x1, x2⟩ := row_cells (h.e _ hx) hv i hi
    exact ⟨x0, x1, x2, h.r _ hx _ (List.getElem_mem hi)⟩
  obtain ⟨D, hD⟩ : ∃ D, D = CH.drop k := ⟨_, rfl⟩
  have hDl : D.length = CH.length - k := by rw [hD, List.length_drop]
  have HDC : Hid (∀ j (hj : j < D.length), D[j] ∈ CH ∧ w.cell? ⟨gc, k + j, none⟩ = some D[j].1) := Lib.hid fun j hj => by
    subst hD
    rw [List.length_drop] at hj
    have hkj : k + j < CH.length := by omega
    rw [List.getElem_drop]
    exact ⟨List.getElem_mem hkj, by rw [hcs (k + j) (by omega), List.getElem?_map, List.getElem?_eq_getElem hkj]; rfl⟩
  rw [← hD] at HEARLY HST
  have hflD : (flatC D).length ≤ 1000 := by
    have h1 : (flatC CH).length = (flatC (CH.take k)).length + (flatC D).length := by rw [hD, ← List.length_append, ← flatC_append, List.take_append_drop]
    omega
  have HFLD := Lib.hid hflD
  have hN : CH.length - k = D.length := hDl.symm
  have hDn : D.length ≤ 1000 := by omega
  have c1 := hf.cell 1
  have hflt := hf.lt
  simp only [List.getElem?_toArray, List.getElem?_cons_succ, List.getElem?_cons_zero] at c1
  have HL1 := Lib.hid hl1
  have HW1 := Lib.hid hw1.symm
  have HB0 := Lib.hid hb0
  have hkc : (k : Int) ≤ (CH.length : Int) := by omega
  have hk0 : ¬ (k : Int) < 0 := by omega
  have hkk : (k : Int) ≤ (cc : Int) := by omega
  clear hf h hk hl1 hw1 hk1 hb0 hcs hcl hD hDl hflD
  go_enter Tryz.func157, Tryz.ntmps157
  go_upto_region 2 with fail
  rw [HW1.out]
  go_wp2_with fail
  refine HFI.out.mono ?_
  rintro r w2 ⟨rfl, hl2⟩
  have hl02 : Lay w w2 := Keep.trans HL1.out hl2
  have c2 : w2.cell? ⟨fb, 1, none⟩ = some (.slice (some ⟨gc, 0, none⟩) CH.length cc) := (hl02.cell hflt).trans c1
  have HL02 := Lib.hid hl02
  have HBX : Hid (w2.cell? ⟨w.heap.size, 0, none⟩ = some (.int .i64 src)) := Lib.hid ((hl2.cell (World.block_lt_of_cell? w1 _ HB0.out)).trans HB0.out)
  clear hl2 hl02 c1 HFI
  by_cases hck : cc = k
  · have hD0 : D = [] := List.eq_nil_of_length_eq_zero (by omega)
    have hE : Hid ((flatC CH).filter (inT src til) = []) := Lib.hid (by rw [HEARLY.out, hD0]; rfl)
    have hN0 : CH.length - k = 0 := by rw [hN, hD0]; rfl
    clear hN hD0
    go_wp2_with fail
    go_loopw [23, 7] (fun vj vl wr => vj = .int .i64 0 ∧ vl = .slice none 0 0 ∧ wr = w2) (fun _ _ _ => 0)
    case atStart => exact ⟨rfl, rfl, rfl⟩
    case round =>
      obtain ⟨rfl, rfl, rfl⟩ := hrel
      go_wp2_with fail
      go_ret
      exact ⟨_, rfl, [], Rk.nil 3 _ _, fun x hx => (by cases hx), (by rw [hE.out]; rfl), HL02.out⟩
  · go_wp2_with fail
    go_loopw [23, 7] (fun vj vl wr => ∃ (j : Nat) (S : List (Value × Ent)), vj = .int .i64 j ∧ j ≤ D.length ∧ Rk 3 (fun b => w2.heap.size ≤ b) wr vl S.length (flatR S) ∧ RawL L wr S ∧ S.map Prod.snd = (flatC (D.take j)).filter (inT src til) ∧ Lay w2 wr) (fun vj _ _ => D.length - (intOf vj).toNat)
    case atStart => exact ⟨0, [], rfl, Nat.zero_le _, Rk.nil 3 _ _, fun x hx => (by cases hx), by simp [flatC], Keep.refl _ _⟩
    case round =>
      obtain ⟨j, S, rfl, hj, hsk, hsl, hS, hl⟩ := hrel
      have HSK := Lib.hid hsk
      have HSL := Lib.hid hsl
      have HSS := Lib.hid hS
      have HL := Lib.hid hl
      clear hsk hsl hS
      by_cases hlt : j < D.length
      · obtain ⟨hX, y0⟩ := HDC.out j hlt
        obtain ⟨ge, ce, hv, hge, hXl, hXc⟩ := HXX.out _ hX
        have hft := flat_take D j hlt
        have hfD := flat_split hlt
        generalize D[j] = X at hX y0 hv hXl hXc hft hfD
        rw [hv] at y0
        have hl0r : Lay w wr := Keep.trans HL02.out hl
        have z0 : wr.cell? ⟨gc, k + j, none⟩ = _ := (hl0r.cell hgc).trans y0
        have HXC := Lib.hid hXc
        have HFT := Lib.hid hft
        have HFD := Lib.hid hfD
        obtain ⟨m, hm⟩ : ∃ m, m = X.2.length := ⟨_, rfl⟩
        rw [← hm] at z0
        have HM := Lib.hid hm
        clear hX y0 hv hXc hft hfD hl0r hm
        go_wp2_with fail
        go_loopw [29, 7] (fun vi vl wq => ∃ (i : Nat) (T : List (Value × Ent)), vi = .int .i64 i ∧ i ≤ m ∧ Rk 3 (fun b => w2.heap.size ≤ b) wq vl T.length (flatR T) ∧ RawL L wq T ∧ T.map Prod.snd = (flatC (D.take j) ++ (entsC X).take i).filter (inT src til) ∧ Lay w2 wq) (fun vi _ _ => m - (intOf vi).toNat)
        case atStart => exact ⟨0, S, rfl, Nat.zero_le _, HSK.out, HSL.out, by rw [HSS.out]; simp, HL.out⟩
        case round =>
          obtain ⟨i, T, rfl, hi, htk, htl, hT, hlq⟩ := hrel
          have HTK := Lib.hid htk
          have HTL := Lib.hid htl
          have HTT := Lib.hid hT
          have HLQ := Lib.hid hlq
          have HTn : Hid (T.length ≤ 1000) := Lib.hid (by
            have h1 := congrArg List.length hT
            have h2 := List.length_filter_le (inT src til) (flatC (D.take j) ++ (entsC X).take i)
            have h3 := congrArg List.length HFD.out
            have h4 := HFLD.out
            rw [List.length_map] at h1
            rw [List.length_append, List.length_take] at h2
            rw [List.length_append, List.length_append] at h3
            omega)
          clear htk htl hT
          by_cases hli : i < m
          · have hi2 : i < X.2.length := by have := HM.out; omega
            obtain ⟨x0, x1, x2, x3⟩ := HXC.out i hi2
            have hie : (entsC X).take (i + 1) = (entsC X).take i ++ [X.2[i].2] := by
              have h1 : i < (entsC X).length := by rw [entsC_len]; exact hi2
              rw [← List.take_append_getElem h1]
              congr 1
              simp [entsC]
            have hdr : (entsC X).drop i = X.2[i].2 :: (entsC X).drop (i + 1) := by
              have h1 : i < (entsC X).length := by rw [entsC_len]; exact hi2
              rw [List.drop_eq_getElem_cons h1]
              congr 1
              simp [entsC]
            generalize X.2[i] = y at x0 x1 x2 x3 hie hdr
            obtain ⟨lv1, e⟩ := y
            simp only [] at x0 x1 x2 x3 hie hdr
            obtain ⟨al, cl, rfl, _, _⟩ := id x3
            have hl0q : Lay w wr := Keep.trans HL02.out hlq
            have y0 : wr.cell? ⟨ge, i * 3, none⟩ = _ := (hl0q.cell hge).trans x0
            have y1 : wr.cell? ⟨ge, i * 3 + 1, none⟩ = _ := (hl0q.cell hge).trans x1
            have y2 : wr.cell? ⟨ge, i * 3 + 2, none⟩ = _ := (hl0q.cell hge).trans x2
            have hlab := (x3.lay hl0q)
            have hbx : wr.cell? ⟨w.heap.size, 0, none⟩ = some (.int .i64 src) := (hlq.cell (World.block_lt_of_cell? w2 _ HBX.out)).trans HBX.out
            obtain ⟨w7, hw7⟩ : ∃ w7, w7 = wr.alloc (.cells #[.int .i64 e.tm, .slice al e.labs.length cl, .string e.line] 32) := ⟨_, rfl⟩
            have hl7 : Lay wr w7 := by rw [hw7]; exact (Keep.refl _ _).alloc _
            have hn7 : Bl w7 wr.heap.size 32 #[.int .i64 e.tm, .slice al e.labs.length cl, .string e.line] := by rw [hw7]; exact Bl.new wr 32 _
            have q0 := hn7.cell 0
            have q1 := hn7.cell 1
            have q2 := hn7.cell 2
            simp only [List.getElem?_toArray, List.getElem?_cons_succ, List.getElem?_cons_zero] at q0 q1 q2
            have b7 := (hl7.cell (World.block_lt_of_cell? wr _ hbx)).trans hbx
            have HL7 := Lib.hid hl7
            have HLAB := Lib.hid (hlab.lay hl7)
            have HIE := Lib.hid hie
            have HDR := Lib.hid hdr
            have HW7 := Lib.hid hw7.symm
            clear x0 x1 x2 x3 hie hdr hl0q hlab hl7 hn7 hw7 hlq
            go_upto_region 9 with fail
            rw [HW7.out]
            clear y0 y1 y2 hbx
            by_cases hlate : til < e.tm
            · have HRES : Hid ((flatC (D.take j) ++ (entsC X).take i).filter (inT src til) = (flatC CH).filter (inT src til)) := Lib.hid (by
                have h1 := HST.out
                have h2 : flatC D = (flatC (D.take j) ++ (entsC X).take i) ++ e :: ((entsC X).drop (i + 1) ++ flatC (D.drop (j + 1))) := by
                  rw [HFD.out, List.append_assoc]
                  congr 1
                  conv => lhs; rw [← List.take_append_drop i (entsC X), HDR.out]
                  simp
                rw [HEARLY.out]
                rw [h2] at h1 ⊢
                exact (filter_late h1 hlate).symm)
              go_wp2_with fail
              go_ret
              exact ⟨_, rfl, T, (HTK.out.lay HL7.out).mono fun b hb _ => Nat.le_trans HL02.out.size hb, HTL.out.lay HL7.out, by rw [HTT.out, HRES.out], Keep.trans (Keep.trans HL02.out HLQ.out) HL7.out⟩
            · by_cases hearly : src ≤ e.tm
              · have hyes : inT src til e = true := by unfold inT; rw [decide_eq_true hearly, decide_eq_true (by omega)]; rfl
                have HYES := Lib.hid hyes
                have HSRC := Lib.hid (src_entB (e := e) (w := w7) (lv := .slice al e.labs.length cl) rfl)
                have htn := HTn.out
                have hs7 : w2.heap.size ≤ w7.heap.size := Nat.le_trans HLQ.out.size HL7.out.size
                have HS7 := Lib.hid hs7
                clear hyes hs7
                go_wp2_with (at_builtin; refine wpList_append_rk E24 _ rfl _ _ 43 rfl (G := fun b => w2.heap.size ≤ b) rfl ((HTK.out.lay HL7.out).alloc _) ?c1 (.slice (some ⟨w7.heap.size, 0, none⟩) 1 1) 1 (flatR [((.slice al e.labs.length cl : Value), e)]) rfl HSRC.out ?c3 ?c4 ?_)
                case c1 =>
                  intro b hb
                  have h1 := HS7.out
                  try simp at hb
                  omega
                case c3 => omega
                case c4 => omega
                intro v' w8 hrk8 hk8
                have hl78 : Lay w7 (w7.alloc (.cells #[.int .i64 e.tm, .slice al e.labs.length cl, .string e.line] 32)) := (Keep.refl _ _).alloc _
                have hl28 : Lay w2 (w7.alloc (.cells #[.int .i64 e.tm, .slice al e.labs.length cl, .string e.line] 32)) := Keep.trans (Keep.trans HLQ.out HL7.out) hl78
                have hatu : ∀ b, At u7 b → w2.heap.size ≤ b := fun b hb => (HTK.out.at hb).1
                have hl8 : Lay w2 w8 := lay_keepB hl28 hk8 hatu
                have HRK8 : Hid (Rk 3 (fun b => w2.heap.size ≤ b) w8 v' (T ++ [((.slice al e.labs.length cl : Value), e)]).length (flatR (T ++ [((.slice al e.labs.length cl : Value), e)]))) := Lib.hid (by
                  have := hrk8.mono (G' := fun b => w2.heap.size ≤ b) fun b hb _ => hb.1
                  rw [flatR_append, List.length_append]
                  exact this)
                have hraw : RawL L w8 (T ++ [((.slice al e.labs.length cl : Value), e)]) := fun z hz => by
                  have hs2 := HL02.out.size
                  rcases List.mem_append.1 hz with hz | hz
                  · exact (((HTL.out.lay HL7.out).lay hl78) z hz).keep hk8 fun b hb _ h => by
                      have h1 := hLb b hb
                      have h2 := hatu b h
                      omega
                  · obtain rfl := List.mem_singleton.1 hz
                    exact (HLAB.out.lay hl78).keep hk8 fun b hb _ h => by
                      have h1 := hLb b hb
                      have h2 := hatu b h
                      omega
                have HRAW := Lib.hid hraw
                have HL8 := Lib.hid hl8
                clear hrk8 hk8 hl78 hl28 hatu hl8 hraw
                go_wp2
                go_roundw
                case rel => exact ⟨i + 1, T ++ [((.slice al e.labs.length cl : Value), e)], by go_num, by omega, HRK8.out, HRAW.out, by rw [List.map_append, HTT.out, HIE.out, ← List.append_assoc, List.filter_append (p := inT src til) (l₂ := [e])]; simp [HYES.out], HL8.out⟩
                case measure => simp [intOf]; omega
              · have hno : inT src til e = false := by unfold inT; rw [decide_eq_false hearly, Bool.false_and]
                have HNO := Lib.hid hno
                clear hno
                go_wp2_with fail
                go_roundw
                case rel => exact ⟨i + 1, T, by go_num, by omega, HTK.out.lay HL7.out, HTL.out.lay HL7.out, by rw [HTT.out, HIE.out, ← List.append_assoc, List.filter_append (p := inT src til) (l₂ := [e])]; simp [HNO.out], Keep.trans HLQ.out HL7.out⟩
                case measure => simp [intOf]; omega
          · obtain rfl : i = m := by omega
            have HRES : Hid (T.map Prod.snd = (flatC (D.take (j + 1))).filter (inT src til)) := Lib.hid (by
              rw [HTT.out, HFT.out, List.take_of_length_le (l := entsC X) (by rw [entsC_len, HM.out]; exact Nat.le_refl _)])
            clear hlq
            go_wp2_with fail
            go_roundw
            case rel => exact ⟨j + 1, T, by go_num, by omega, HTK.out, HTL.out, HRES.out, HLQ.out⟩
            case measure => simp [intOf]; omega
      · obtain rfl : j = D.length := by omega
        have HRES : Hid (S.map Prod.snd = (flatC CH).filter (inT src til)) := Lib.hid (by rw [HSS.out, HEARLY.out, List.take_of_length_le (Nat.le_refl _)])
        clear hl
        go_wp2_with fail
        go_ret
        exact ⟨_, rfl, S, HSK.out.mono fun b hb _ => Nat.le_trans HL02.out.size hb, HSL.out, HRES.out, Keep.trans HL02.out HL.out⟩
end Go.Proofs.YtoobjjpheegmdaaGreat.E4
namespace Go.Proofs.YtoobjjpheegmdaaGreat.E4
open Go.RowKit Go
theorem set_end {G L : Nat → Prop} {w w5 : World} {lv cv v' : Value} {ls : List Lab} {CH : List (Value × List (Value × Ent))} {i gc : Nat} {R : List (Value × Ent)} (h : FlowAt G L w lv cv ls CH) (hi : i < CH.length) (hgc : ∀ b, At cv b → b = gc) (hgl : gc < w.heap.size)
    (hLG : ∀ b, L b → ¬ G b) (hGc : G gc) (hgat : At cv gc) (hk : Keep (fun b => b = gc ∨ At CH[i].1 b) w w5) (hrk : Rk 1 G w5 cv CH.length ((CH.map Prod.fst).set i v')) (hr : Rk 3 (fun b => At CH[i].1 b ∨ w.heap.size ≤ b) w5 v' R.length (flatR R)) (hRL : RawL L w5 R) (hR0 : R ≠ [])
    (hst : Strict entC (flatC (CH.set i (v', R)))) (hlab : ∀ e ∈ flatC (CH.set i (v', R)), e.labs = ls) :
    FlowAt (fun b => G b ∨ w.heap.size ≤ b) L w5 lv cv ls (CH.set i (v', R)) := by
  have hx := List.getElem_mem hi
  have hset : CH.set i (v', R) = CH.take i ++ (v', R) :: CH.drop (i + 1) := by rw [List.set_eq_take_append_cons_drop, if_pos hi]
  have hsplit : CH = CH.take i ++ CH[i] :: CH.drop (i + 1) := by rw [← List.drop_eq_getElem_cons hi, List.take_append_drop]
  have htk : ∀ x ∈ CH.take i, x ∈ CH := fun x hx => List.mem_of_mem_take hx
  have hdp : ∀ x ∈ CH.drop (i + 1), x ∈ CH := fun x hx => List.mem_of_mem_drop hx
  have hd := h.d
  rw [hsplit, List.pairwise_append, List.pairwise_cons] at hd
  obtain ⟨hd1, ⟨hd2, hd3⟩, hd4⟩ := hd
  have hold : ∀ x ∈ CH, ∀ b, At x.1 b → G b ∧ b < w.heap.size ∧ b ≠ gc := fun x hx b hb => by
    have h1 := (h.e x hx).at hb
    exact ⟨h1.1, h1.2, fun e => h.o x hx b hb (e ▸ hgat)⟩
  have hke : ∀ x ∈ CH, (∀ b, At x.1 b → ¬ At CH[i].1 b) → Rk 3 G w5 x.1 x.2.length (flatR x.2) := fun x hx hu => by
    have hr' : Rk 3 (fun b => At x.1 b) w x.1 x.2.length (flatR x.2) := (h.e x hx).mono fun b _ ha => ha
    have hr2 : Rk 3 (fun b => At x.1 b) w5 x.1 x.2.length (flatR x.2) := hr'.keep hk fun b hb _ _ e => by
      rcases e with e | e
      · exact (hold x hx b hb).2.2 e
      · exact hu b hb e
    exact hr2.mono fun b hb _ => (hold x hx b hb).1
  have hlk : ∀ {u : Value} {l : List Lab}, LabsAt L w u l → LabsAt L w5 u l := fun hl => hl.keep hk fun b hb _ e => by
    rcases e with e | e
    · exact hLG b hb (by rw [e]; exact hGc)
    · exact hLG b hb (hold _ hx b e).1
  have hat' : ∀ b, At v' b → At CH[i].1 b ∨ w.heap.size ≤ b := fun b hb => (hr.at hb).1
  refine ⟨hlk h.l, ?_, fun x hx => ?_, fun x hx => ?_, ?_, fun x hx b hb hb' => ?_, fun x hx => ?_, hst, hlab⟩
  · rw [List.length_set, ← xs_set]
    exact hrk.mono fun b hb _ => .inl hb
  · rw [hset] at hx
    simp only [List.mem_append, List.mem_cons] at hx
    rcases hx with hx | rfl | hx
    · exact (hke x (htk x hx) fun b hb hb2 => hd4 x hx _ (List.mem_cons_self ..) b hb hb2).mono fun b hb _ => .inl hb
    · exact hr.mono fun b hb _ => hb.imp (fun hb => (hold _ (List.getElem_mem hi) b hb).1) id
    · exact (hke x (hdp x hx) fun b hb hb2 => hd2 x hx b hb2 hb).mono fun b hb _ => .inl hb
  · rw [hset] at hx
    simp only [List.mem_append, List.mem_cons] at hx
    rcases hx with hx | rfl | hx
    · exact fun y hy => hlk (h.r x (htk x hx) y hy)
    · exact hRL
    · exact fun y hy => hlk (h.r x (hdp x hx) y hy)
  · rw [hset, List.pairwise_append, List.pairwise_cons]
    have hnew : ∀ x ∈ CH, (∀ b, At x.1 b → ¬ At CH[i].1 b) → ∀ b, At x.1 b → ¬ At v' b := fun x hx hu b hb hb2 => by
      rcases hat' b hb2 with h3 | h3
      · exact hu b hb h3
      · have := (hold x hx b hb).2.1
        omega
    refine ⟨hd1, ⟨fun y hy b hb hb2 => hnew y (hdp y hy) (fun b hb hb2 => hd2 y hy b hb2 hb) b hb2 hb, hd3⟩, fun x hx y hy b hb hb2 => ?_⟩
    simp only [List.mem_cons] at hy
    rcases hy with rfl | hy
    · exact hnew x (htk x hx) (fun b hb hb2 => hd4 x hx _ (List.mem_cons_self ..) b hb hb2) b hb hb2
    · exact hd4 x hx y (List.mem_cons_of_mem _ hy) b hb hb2
  · rw [hset] at hx
    simp only [List.mem_append, List.mem_cons] at hx
    have hbg := hgc b hb'
    rcases hx with hx | rfl | hx
    · exact (hold x (htk x hx) b hb).2.2 hbg
    · rcases hat' b hb with h3 | h3
      · exact (hold _ (List.getElem_mem hi) b h3).2.2 hbg
      · omega
    · exact (hold x (hdp x hx) b hb).2.2 hbg
  · rw [hset] at hx
    simp only [List.mem_append, List.mem_cons] at hx
    rcases hx with hx | rfl | hx
    · exact h.n x (htk x hx)
    · exact hR0
    · exact h.n x (hdp x hx)
end Go.Proofs.YtoobjjpheegmdaaGreat.E4
