/-
  (*flow).first: THE PLACE OF THE FIRST CHUNK WHOSE LAST ENTRY IS SO.
-/
import Derived.Test.YtgfjbboeappemaaGreatDoorWa14
import Derived.Shelf.SlSortCmp.QuietGrown
import Derived.Shelf.SlSorted.Search
namespace Go.Proofs.YtgfjbboeappemaaGreatDoor.E4
open Go.RowKit Go
open Go.Sort (grow)

set_option maxHeartbeats 4000000 in
set_option maxRecDepth 100000 in
theorem first1_any {G L : Nat → Prop} {w : World} {lv cv : Value} {ls : List Lab} {CH : List (Value × List (Value × Ent))} (p : Ent → Bool) (g : Nat) (cb : Array Value) (eg : ∀ args w, (callFunc g args).run Tryz.prog w = .ok (.enter g args) w)
    {fb SB FB i : Nat} (hS : w.cell? ⟨SB, 0, none⟩ = some (.func (.func g) #[] cb)) (hF : w.cell? ⟨FB, 0, none⟩ = some (.pointer (some ⟨fb, 0, none⟩))) (hf : w.cell? ⟨fb, 1, none⟩ = some cv) (h : FlowAt G L w lv cv ls CH) (hi : i < CH.length)
    (hP : ∀ W, Lay w W → ∀ x ∈ CH, ∀ y ∈ x.2, Calls Tryz.prog g (#[y.2.val y.1] ++ cb) W fun r w' => r = .returned (.bool (p y.2)) ∧ Lay W w') :
    Calls Tryz.prog 91 #[.int .i64 i, .pointer (some ⟨SB, 0, none⟩), .pointer (some ⟨FB, 0, none⟩)] w fun x w' => x = .returned (.bool (p (lastE CH[i]))) ∧ Lay w w' := by
  have hmx : Tryz.prog.follows .mixedOrders = true := by kernel_rfl
  have hx := List.getElem_mem hi
  have hne := h.n _ hx
  obtain ⟨gc, cc, rfl, _, hgc, _, _, hcc⟩ := h.c.some (by omega)
  have hc0 : w.cell? ⟨gc, i, none⟩ = some CH[i].1 := by rw [hcc i (by omega), List.getElem?_map, List.getElem?_eq_getElem hi]; rfl
  have hpos : 0 < CH[i].2.length := List.length_pos_iff.2 hne
  have hmem := lastR_mem hne
  have hlg := lastR_get hne (by omega)
  obtain ⟨ge, ce, hv, _, hge, _, hm, _⟩ := (h.e _ hx).some hpos
  obtain ⟨x0, x1, x2⟩ := row_cells (h.e _ hx) hv (CH[i].2.length - 1) (by omega)
  rw [hlg] at x0 x1 x2
  obtain ⟨al, cl, hlv, _, _⟩ := id (h.r _ hx _ hmem)
  have hcall : ∀ n os, Calls Tryz.prog g (#[(lastR CH[i]).2.val (lastR CH[i]).1] ++ cb) (Sort.grow (w.drewN n) os) fun x w'' => x = .returned (.bool (p (lastE CH[i]))) ∧ ∃ q : GrownBy, w'' = Sort.grow (w.drewN q.n) q.os :=
    fun n os => grown_of_lay (hP _ (Lay.of_grown n os) _ hx _ hmem)
  rw [hv] at hc0
  rw [hlv] at x1 hcall
  have hnb : CH[i].2.length ≤ 9223372036854775807 := by unfold maxLen at hm; omega
  clear hlg
  unfold lastE at hcall ⊢
  clear hlv hmem
  generalize (lastR CH[i]).2 = z at x0 x1 x2 hcall ⊢
  generalize CH[i].2.length = n at x0 x1 x2 hc0 hpos hnb
  obtain ⟨n, rfl⟩ : ∃ m, n = m + 1 := ⟨n - 1, by omega⟩
  simp only [Nat.add_sub_cancel] at x0 x1 x2
  have gS := cell_grown (World.block_lt_of_cell? w _ hS) hS
  have gF := cell_grown (World.block_lt_of_cell? w _ hF) hF
  have gf := cell_grown (World.block_lt_of_cell? w _ hf) hf
  have gc0 := cell_grown (World.block_lt_of_cell? w _ hc0) hc0
  have gx0 := cell_grown (World.block_lt_of_cell? w _ x0) x0
  have gx1 := cell_grown (World.block_lt_of_cell? w _ x1) x1
  have gx2 := cell_grown (World.block_lt_of_cell? w _ x2) x2
  have hi1 : (i : Int) < (CH.length : Int) := by omega
  have hi0 : ¬ (i : Int) < 0 := by omega
  have hnw : IntKind.i64.wrap (n : Int) = (n : Int) := by rw [IntKind.wrap_i64]; omega
  have hn1 : (n : Int) < (n : Int) + 1 := by omega
  simp only [Ent.val] at hcall
  clear h hx hne hcc x0 x1 x2 hc0 hS hF hf hP hv
  go_enter Tryz.func91, Tryz.ntmps91
  go_wp2_with fail
  go_quiet_grown (with_reducible exact hcall _ _)
  go_wp2_with fail
  go_ret
  exact ⟨rfl, Lay.of_grown nq osq⟩

theorem bound_of {P : Nat → Bool} : ∀ n, (∀ i j, i ≤ j → j < n → P i = true → P j = true) → ∃ k, k ≤ n ∧ (∀ i, i < k → P i = false) ∧ (∀ i, k ≤ i → i < n → P i = true) ∧ (List.range n).countP (fun i => !P i) = k
  | 0, _ => ⟨0, Nat.le_refl _, fun i h => absurd h (Nat.not_lt_zero _), fun i _ h => absurd h (Nat.not_lt_zero _), rfl⟩
  | n + 1, h => by
    obtain ⟨k, h1, h2, h3, h4⟩ := bound_of n fun i j hij hj => h i j hij (by omega)
    rw [List.range_succ, List.countP_append, h4]
    cases hp : P n with
    | true =>
      refine ⟨k, by omega, h2, fun i hk hi => ?_, by simp [hp]⟩
      by_cases e : i = n
      · rw [e]; exact hp
      · exact h3 i hk (by omega)
    | false =>
      have hk : k = n := by
        by_cases e : k = n
        · exact e
        · have := h k n h1 (Nat.lt_succ_self _) (h3 k (Nat.le_refl _) (by omega))
          rw [hp] at this; cases this
      subst hk
      refine ⟨k + 1, Nat.le_refl _, fun i hi => ?_, fun i hk hi => by omega, by simp [hp]⟩
      by_cases e : i = k
      · rw [e]; exact hp
      · exact h2 i (by omega)

/-- Where the chunks begin whose last entries are so. -/
def FirstI (p : Ent → Bool) (CH : List (Value × List (Value × Ent))) (k : Nat) : Prop := k ≤ CH.length ∧ (∀ i (h : i < CH.length), i < k → p (lastE CH[i]) = false) ∧ ∀ i (h : i < CH.length), k ≤ i → p (lastE CH[i]) = true

set_option maxHeartbeats 4000000 in
set_option maxRecDepth 100000 in
theorem first_any {G L : Nat → Prop} {w : World} {lv cv : Value} {ls : List Lab} {CH : List (Value × List (Value × Ent))} (p : Ent → Bool) (g : Nat) (cb : Array Value) (eg : ∀ args w, (callFunc g args).run Tryz.prog w = .ok (.enter g args) w)
    {fb : Nat} (hf : Bl w fb 81 #[lv, cv]) (h : FlowAt G L w lv cv ls CH) (hn : CH.length ≤ 1000000) (hmono : ∀ i j (hi : i < CH.length) (hj : j < CH.length), i ≤ j → p (lastE CH[i]) = true → p (lastE CH[j]) = true)
    (hP : ∀ W, Lay w W → ∀ x ∈ CH, ∀ y ∈ x.2, Calls Tryz.prog g (#[y.2.val y.1] ++ cb) W fun r w' => r = .returned (.bool (p y.2)) ∧ Lay W w') :
    Calls Tryz.prog 60 #[.pointer (some ⟨fb, 0, none⟩), .func (.func g) #[] cb] w fun x w' => ∃ k : Nat, FirstI p CH k ∧ x = .returned (.int .i64 k) ∧ Lay w w' := by
  obtain ⟨k, hk1, hk2, hk3, hk4⟩ := bound_of (P := fun i => p (lastE (CH.getD i (.slice none 0 0, [])))) CH.length fun i j hij hj hp => by
    have hi : i < CH.length := by omega
    simp only [List.getD, hi, hj, List.getElem?_eq_getElem, Option.getD_some] at hp ⊢
    exact hmono i j hi hj hij hp
  have HFI : Hid (FirstI p CH k) := Lib.hid ⟨hk1, fun i hi h => by have := hk2 i h; simpa [List.getD, hi] using this, fun i hi h => by have := hk3 i h hi; simpa [List.getD, hi] using this⟩
  obtain ⟨w1, hw1⟩ : ∃ w1, w1 = (w.alloc (.cells #[.pointer (some ⟨fb, 0, none⟩)] 103)).alloc (.cells #[.func (.func g) #[] cb] 61) := ⟨_, rfl⟩
  have hl1 : Lay w w1 := by rw [hw1]; exact ((Keep.refl _ w).alloc _).alloc _
  have hFB : w1.cell? ⟨w.heap.size, 0, none⟩ = some (.pointer (some ⟨fb, 0, none⟩)) := by
    have h0 := (Bl.new w 103 #[.pointer (some ⟨fb, 0, none⟩)])
    have h1 : Bl w1 w.heap.size 103 #[.pointer (some ⟨fb, 0, none⟩)] := by rw [hw1]; exact (Below.heap_alloc _ _ _ (by simp)).trans h0
    exact h1.cell 0
  have hSB : w1.cell? ⟨w.heap.size + 1, 0, none⟩ = some (.func (.func g) #[] cb) := by
    have h0 := Bl.new (w.alloc (.cells #[.pointer (some ⟨fb, 0, none⟩)] 103)) 61 #[.func (.func g) #[] cb]
    rw [World.size_alloc] at h0
    rw [hw1]; exact h0.cell 0
  have hf1 : Bl w1 fb 81 #[lv, cv] := hf.below (lay_below hl1)
  have hfc : w1.cell? ⟨fb, 1, none⟩ = some cv := hf1.cell 1
  obtain ⟨ca, cc, rfl⟩ := h.c.shape
  have HSR : Hid (Calls Tryz.prog 78 #[.int .i64 CH.length, .func (.func 91) #[] #[.pointer (some ⟨w.heap.size + 1, 0, none⟩), .pointer (some ⟨w.heap.size, 0, none⟩)]] w1 fun e w' => e = .returned (.int .i64 (k : Nat)) ∧ Lay w1 w') := Lib.hid (by
    have h := Any.sort_Search Tryz.search 91 #[.pointer (some ⟨w.heap.size + 1, 0, none⟩), .pointer (some ⟨w.heap.size, 0, none⟩)] CH.length (fun i => p (lastE (CH.getD i (.slice none 0 0, [])))) w1 (enters_of Tryz.func91 (by kernel_rfl) rfl) (by omega)
      (fun mm os i hi => by
        have hlg : Lay w1 (grow (w1.drewN mm) os) := Lay.of_grown mm os
        have hl2 : Lay w (grow (w1.drewN mm) os) := Keep.trans hl1 hlg
        have hgd : CH.getD i (.slice none 0 0, []) = CH[i] := by simp [List.getD, hi]
        rw [hgd]
        exact (first1_any p g cb eg ((hlg.cell (World.block_lt_of_cell? w1 _ hSB)).trans hSB) ((hlg.cell (World.block_lt_of_cell? w1 _ hFB)).trans hFB) ((hlg.cell (World.block_lt_of_cell? w1 _ hfc)).trans hfc) (h.lay hl2) hi
          (fun W hW => hP W (Keep.trans hl2 hW))).mono fun e w' ⟨h1, h2⟩ => ⟨h1, h2.grown⟩)
      (fun i j hij hj hp => by
        have hi : i < CH.length := by omega
        simp only [List.getD, hi, hj, List.getElem?_eq_getElem, Option.getD_some] at hp ⊢
        exact hmono i j hi hj hij hp)
    rw [hk4] at h
    exact h.mono fun e w' ⟨h1, q, os, h2⟩ => ⟨h1, by rw [h2]; exact Lay.of_grown q os⟩)
  have c0 := hf1.cell 0
  have HW1 := Lib.hid hw1.symm
  have HL1 := Lib.hid hl1
  simp only [List.getElem?_toArray, List.getElem?_cons_zero] at c0
  clear hP hmono h hk1 hk2 hk3 hk4 hl1 hw1 hf hf1 eg
  go_enter Tryz.func60, Tryz.ntmps60
  go_upto_region 1 with fail
  rw [HW1.out]
  go_wp2_with fail
  refine HSR.out.mono ?_
  rintro e w2 ⟨rfl, hl2⟩
  have HL2 := Lib.hid (Keep.trans HL1.out hl2)
  clear hl2
  go_wp2_with fail
  go_ret
  exact ⟨k, HFI.out, rfl, HL2.out⟩

end Go.Proofs.YtgfjbboeappemaaGreatDoor.E4
