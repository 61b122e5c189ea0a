/-
  Al16.
-/
import Derived.Test.YtoobjjpheegmdaaGreatJ41
namespace Go.Proofs.YtoobjjpheegmdaaGreat.E4
open Go.RowKit Go
def aE16 (k : Int) : Ask := ⟨k, -1099511627776, 1099511627776, [], []⟩
theorem all_great (k : Int) : (aE16 k).great = false := by kernel_rfl
theorem all_good {k : Nat} (hk : k = 1 ∨ k = 2 ∨ k = 3) : (aE16 (k : Int)).good isTx = true := by
  rcases hk with rfl | rfl | rfl <;> kernel_rfl
theorem all_asks {k : Nat} (hk : k = 1 ∨ k = 2 ∨ k = 3) {e : Ent} (h : e.ok = true) : asksK k (aE16 (k : Int)) e = true := by
  have ht : -1099511627776 ≤ e.tm ∧ e.tm ≤ 1099511627776 := by
    unfold Ent.ok timeOK at h
    simp only [Bool.and_eq_true, decide_eq_true_eq] at h
    exact h.1.1
  unfold asksK
  rcases hk with rfl | rfl | rfl
  · show (decide (-1099511627776 ≤ e.tm) && decide (e.tm ≤ 1099511627776) && true) = true
    rw [decide_eq_true ht.1, decide_eq_true ht.2]
    rfl
  · show ((decide (-1099511627776 ≤ e.tm) && decide (e.tm ≤ 1099511627776)) && true) = true
    rw [decide_eq_true ht.1, decide_eq_true ht.2]
    rfl
  · show (decide (-1099511627776 ≤ e.tm) && decide (e.tm ≤ 1099511627776)) = true
    rw [decide_eq_true ht.1, decide_eq_true ht.2]
    rfl
theorem all_filter {k : Nat} (hk : k = 1 ∨ k = 2 ∨ k = 3) {log : List Ent} (h : ∀ x ∈ log, x.ok = true) : log.filter (asksK k (aE16 (k : Int))) = log := List.filter_eq_self.2 fun x hx => all_asks hk (h x hx)
theorem sorts_ex {c : Ent → Ent → Int} (hc : LC c) : ∀ l : List Ent, ∃ srt, Sorts c l srt
  | [] => ⟨[], List.Pairwise.nil, fun _ => Iff.rfl⟩
  | x :: l => by
    obtain ⟨s, hs, hm⟩ := sorts_ex hc l
    by_cases hx : x ∈ s
    · refine ⟨s, hs, fun y => ?_⟩
      rw [hm, List.mem_cons]
      exact ⟨.inr, fun h => h.elim (fun e => by rw [e]; exact (hm x).1 hx) id⟩
    · have hto : ∀ y ∈ s, c y x = -1 ∨ c x y = -1 := fun y hy => by
        have h1 := hc.neg y x
        rcases hc.tri y x with h | h | h
        · exact .inl h
        · exact absurd (hc.eq y x h ▸ hy) hx
        · exact .inr (by omega)
      refine ⟨s.filter (fun y => decide (c y x = -1)) ++ x :: s.filter (fun y => decide (c x y = -1)), ?_, fun y => ?_⟩
      · refine List.pairwise_append.2 ⟨List.Pairwise.filter _ hs, List.pairwise_cons.2 ⟨fun b hb => of_decide_eq_true (List.mem_filter.1 hb).2, List.Pairwise.filter _ hs⟩, fun a ha b hb => ?_⟩
        have h1 : c a x = -1 := of_decide_eq_true (List.mem_filter.1 ha).2
        rcases List.mem_cons.1 hb with rfl | hb
        · exact h1
        · exact hc.tr _ _ _ h1 (of_decide_eq_true (List.mem_filter.1 hb).2)
      · rw [List.mem_append, List.mem_cons, List.mem_filter, List.mem_filter, List.mem_cons, ← hm y]
        constructor
        · rintro (h | h | h)
          · exact .inr h.1
          · exact .inl h
          · exact .inr h.1
        · rintro (h | h)
          · exact .inr (.inl h)
          · rcases hto y h with h2 | h2
            · exact .inl ⟨h, decide_eq_true h2⟩
            · exact .inr (.inr ⟨h, decide_eq_true h2⟩)
theorem srtOf_ok (desc : Bool) (l : List Ent) : Sorts (ordC desc) l (srtOf desc l) := by
  obtain ⟨s, hs⟩ := sorts_ex (ordC_lc desc) l
  rw [srtOf_eq hs]
  exact hs
theorem all_ans {k : Nat} (hk : k = 1 ∨ k = 2 ∨ k = 3) {log : List Ent} (h : ∀ x ∈ log, x.ok = true) (hl : log.length ≤ 100) : ansK k log (aE16 (k : Int)) (mkO false ⟨0, [], ⟨#[]⟩⟩) false 1000 = (srtOf false log, true, 0) := by
  have hs := Sorts.len13 (srtOf_ok false log)
  unfold ansK
  rw [if_pos (show (aE16 (k : Int)).kd = (k : Int) from rfl), if_pos (all_good hk), all_filter hk h]
  generalize srtOf false log = srt at hs
  show ((Md.cut (ordC false) none 1000 srt).1, (Md.cut (ordC false) none 1000 srt).2, (0 : Int)) = _
  unfold Md.cut
  rw [Md.rest_none, List.take_of_length_le (by omega), decide_eq_true (by omega)]
end Go.Proofs.YtoobjjpheegmdaaGreat.E4
