/-
  Fl14, Fr14, Bf14, Wa14.
-/
import Derived.Test.YtoobjjpheegmdaaGreatJ12
import Derived.Shelf.SlSortCmp.QuietGrown
import Derived.Shelf.SlSorted.Search
namespace Go.Proofs.YtoobjjpheegmdaaGreat.E4
open Go.RowKit Go
def entsC (x : Value × List (Value × Ent)) : List Ent := x.2.map Prod.snd
theorem entsC_len (x : Value × List (Value × Ent)) : (entsC x).length = x.2.length := List.length_map ..
def flatC (CH : List (Value × List (Value × Ent))) : List Ent := CH.flatMap entsC
theorem flatC_append (A B : List (Value × List (Value × Ent))) : flatC (A ++ B) = flatC A ++ flatC B := List.flatMap_append ..
theorem flatC_cons (x : Value × List (Value × Ent)) (B : List (Value × List (Value × Ent))) : flatC (x :: B) = entsC x ++ flatC B := List.flatMap_cons ..
theorem mem_flatC {CH : List (Value × List (Value × Ent))} {e : Ent} : e ∈ flatC CH ↔ ∃ x ∈ CH, e ∈ entsC x := List.mem_flatMap
structure FlowAt (G L : Nat → Prop) (w : World) (lv cv : Value) (ls : List Lab) (CH : List (Value × List (Value × Ent))) : Prop where
  l : LabsAt L w lv ls
  c : Rk 1 G w cv CH.length (CH.map Prod.fst)
  e : ∀ x ∈ CH, Rk 3 G w x.1 x.2.length (flatR x.2)
  r : ∀ x ∈ CH, RawL L w x.2
  d : CH.Pairwise fun x y => ∀ k, At x.1 k → ¬ At y.1 k
  o : ∀ x ∈ CH, ∀ k, At x.1 k → ¬ At cv k
  n : ∀ x ∈ CH, x.2 ≠ []
  s : Strict entC (flatC CH)
  m : ∀ e ∈ flatC CH, e.labs = ls
theorem FlowAt.carry {G L : Nat → Prop} {w w' : World} {lv cv : Value} {ls : List Lab} {CH : List (Value × List (Value × Ent))} (h : FlowAt G L w lv cv ls CH) (hs : w.heap.size ≤ w'.heap.size) (hb : ∀ k, (G k ∨ L k) → k < w.heap.size → w'.heap[k]? = w.heap[k]?) : FlowAt G L w' lv cv ls CH :=
  ⟨h.l.carry hs fun b hb' hlt => hb b (.inr hb') hlt, h.c.carry hs fun b hg _ hlt => hb b (.inl hg) hlt, fun x hx => (h.e x hx).carry hs fun b hg _ hlt => hb b (.inl hg) hlt, fun x hx y hy => (h.r x hx y hy).carry hs fun b hb' hlt => hb b (.inr hb') hlt, h.d, h.o, h.n, h.s, h.m⟩
theorem FlowAt.lay {G L : Nat → Prop} {w w' : World} {lv cv : Value} {ls : List Lab} {CH : List (Value × List (Value × Ent))} (h : FlowAt G L w lv cv ls CH) (hl : Lay w w') : FlowAt G L w' lv cv ls CH := h.carry hl.size fun _ _ hlt => Lay.block hl hlt
theorem FlowAt.below {G L : Nat → Prop} {w w' : World} {lv cv : Value} {ls : List Lab} {CH : List (Value × List (Value × Ent))} (h : FlowAt G L w lv cv ls CH) (hl : Below w.heap.size w w') : FlowAt G L w' lv cv ls CH := h.carry hl.size fun _ _ hlt => hl.block _ hlt
theorem FlowAt.mono {G L G' L' : Nat → Prop} {w : World} {lv cv : Value} {ls : List Lab} {CH : List (Value × List (Value × Ent))} (h : FlowAt G L w lv cv ls CH) (hG : ∀ k, G k → k < w.heap.size → G' k) (hL : ∀ k, L k → k < w.heap.size → L' k) : FlowAt G' L' w lv cv ls CH :=
  ⟨h.l.mono hL, h.c.mono fun k hk ha => hG k hk (h.c.at ha).2, fun x hx => (h.e x hx).mono fun k hk ha => hG k hk ((h.e x hx).at ha).2, fun x hx => (h.r x hx).mono hL, h.d, h.o, h.n, h.s, h.m⟩
theorem Rk.some {k : Nat} {G : Nat → Prop} {w : World} {v : Value} {n : Nat} {xs : List Value} (h : Rk k G w v n xs) (hn : 0 < n) : ∃ g c, v = .slice (Option.some ⟨g, 0, Option.none⟩) n c ∧ G g ∧ g < w.heap.size ∧ n ≤ c ∧ c ≤ maxLen ∧ ∀ j, j < n * k → w.cell? ⟨g, j, Option.none⟩ = xs[j]? := by
  obtain ⟨hl, ⟨_, h0⟩ | ⟨g, c, hv, hg, hlt, h1, h2, h3, _⟩⟩ := h
  · omega
  · exact ⟨g, c, hv, hg, hlt, h1, h2, fun j hj => h3 j (by omega)⟩
theorem FlowAt.ents {G L : Nat → Prop} {w : World} {lv cv : Value} {ls : List Lab} {CH : List (Value × List (Value × Ent))} (h : FlowAt G L w lv cv ls CH) {x : Value × List (Value × Ent)} (hx : x ∈ CH) : EntsAt G L w x.1 (entsC x) := (h.e x hx).ents (h.r x hx)
theorem row_cells {G : Nat → Prop} {w : World} {R : List (Value × Ent)} {v : Value} {g c : Nat} (h : Rk 3 G w v R.length (flatR R)) (hv : v = .slice (Option.some ⟨g, 0, Option.none⟩) R.length c) (i : Nat) (hi : i < R.length) :
    w.cell? ⟨g, i * 3, Option.none⟩ = Option.some (.int .i64 R[i].2.tm) ∧ w.cell? ⟨g, i * 3 + 1, Option.none⟩ = Option.some R[i].1 ∧ w.cell? ⟨g, i * 3 + 2, Option.none⟩ = Option.some (.string R[i].2.line) := by
  obtain ⟨g', c', hv', _, _, _, _, hc⟩ := h.some (by omega)
  rw [hv] at hv'
  simp only [Value.slice.injEq, Option.some.injEq, Addr.mk.injEq, and_true, true_and] at hv'
  obtain ⟨rfl, rfl⟩ := hv'
  refine ⟨?_, ?_, ?_⟩
  · rw [hc _ (by omega), show i * 3 = i * 3 + 0 from rfl, flatR_get _ i hi 0 (by omega)]; rfl
  · rw [hc _ (by omega), flatR_get _ i hi 1 (by omega)]; rfl
  · rw [hc _ (by omega), flatR_get _ i hi 2 (by omega)]; rfl
def lastR (x : Value × List (Value × Ent)) : Value × Ent := x.2.getLastD (.slice none 0 0, ⟨0, [], ⟨#[]⟩⟩)
def lastE (x : Value × List (Value × Ent)) : Ent := (lastR x).2
theorem lastR_mem {x : Value × List (Value × Ent)} (h : x.2 ≠ []) : lastR x ∈ x.2 := by
  unfold lastR
  rw [List.getLastD_eq_getLast?, List.getLast?_eq_some_getLast h]
  exact List.getLast_mem h
theorem lastE_mem {x : Value × List (Value × Ent)} (h : x.2 ≠ []) : lastE x ∈ entsC x := List.mem_map.2 ⟨_, lastR_mem h, rfl⟩
theorem lastR_get {x : Value × List (Value × Ent)} (h : x.2 ≠ []) (hl : x.2.length - 1 < x.2.length) : x.2[x.2.length - 1] = lastR x := by
  unfold lastR
  rw [List.getLastD_eq_getLast?, List.getLast?_eq_some_getLast h, Option.getD_some, List.getLast_eq_getElem]
end Go.Proofs.YtoobjjpheegmdaaGreat.E4
namespace Go.Proofs.YtoobjjpheegmdaaGreat.E4
open Go.RowKit Go
open Go.Sort (grow)
set_option maxHeartbeats 4000000 in
set_option maxRecDepth 100000 in
theorem first1_any {G L : Nat → Prop} {w : World} {lv cv : Value} {ls : List Lab} {CH : List (Value × List (Value × Ent))} (p : Ent → Bool) (g : Nat) (cb : Array Value) (eg : ∀ args w, (callFunc g args).run Tryz.prog w = .ok (.enter g args) w)
    {fb SB FB i : Nat} (hS : w.cell? ⟨SB, 0, none⟩ = some (.func (.func g) #[] cb)) (hF : w.cell? ⟨FB, 0, none⟩ = some (.pointer (some ⟨fb, 0, none⟩))) (hf : w.cell? ⟨fb, 1, none⟩ = some cv) (h : FlowAt G L w lv cv ls CH) (hi : i < CH.length)
    (hP : ∀ W, Lay w W → ∀ x ∈ CH, ∀ y ∈ x.2, Calls Tryz.prog g (#[y.2.val y.1] ++ cb) W fun r w' => r = .returned (.bool (p y.2)) ∧ Lay W w') :
    Calls Tryz.prog 158 #[.int .i64 i, .pointer (some ⟨SB, 0, none⟩), .pointer (some ⟨FB, 0, none⟩)] w fun x w' => x = .returned (.bool (p (lastE CH[i]))) ∧ Lay w w' := by
  have hmx : Tryz.prog.follows .mixedOrders = true := by kernel_rfl
  have hx := List.getElem_mem hi
  have hne := h.n _ hx
  obtain ⟨gc, cc, rfl, _, hgc, _, _, hcc⟩ := h.c.some (by omega)
  have hc0 : w.cell? ⟨gc, i, none⟩ = some CH[i].1 := by rw [hcc i (by omega), List.getElem?_map, List.getElem?_eq_getElem hi]; rfl
  have hpos : 0 < CH[i].2.length := List.length_pos_iff.2 hne
  have hmem := lastR_mem hne
  have hlg := lastR_get hne (by omega)
  obtain ⟨ge, ce, hv, _, hge, _, hm, _⟩ := (h.e _ hx).some hpos
  obtain ⟨x0, x1, x2⟩ := row_cells (h.e _ hx) hv (CH[i].2.length - 1) (by omega)
  rw [hlg] at x0 x1 x2
  obtain ⟨al, cl, hlv, _, _⟩ := id (h.r _ hx _ hmem)
  have hcall : ∀ n os, Calls Tryz.prog g (#[(lastR CH[i]).2.val (lastR CH[i]).1] ++ cb) (Sort.grow (w.drewN n) os) fun x w'' => x = .returned (.bool (p (lastE CH[i]))) ∧ ∃ q : GrownBy, w'' = Sort.grow (w.drewN q.n) q.os :=
    fun n os => grown_of_lay (hP _ (Lay.of_grown n os) _ hx _ hmem)
  rw [hv] at hc0
  rw [hlv] at x1 hcall
  have hnb : CH[i].2.length ≤ 9223372036854775807 := by unfold maxLen at hm; omega
  clear hlg
  unfold lastE at hcall ⊢
  clear hlv hmem
  generalize (lastR CH[i]).2 = z at x0 x1 x2 hcall ⊢
  generalize CH[i].2.length = n at x0 x1 x2 hc0 hpos hnb
  obtain ⟨n, rfl⟩ : ∃ m, n = m + 1 := ⟨n - 1, by omega⟩
  simp only [Nat.add_sub_cancel] at x0 x1 x2
  have gS := cell_grown (World.block_lt_of_cell? w _ hS) hS
  have gF := cell_grown (World.block_lt_of_cell? w _ hF) hF
  have gf := cell_grown (World.block_lt_of_cell? w _ hf) hf
  have gc0 := cell_grown (World.block_lt_of_cell? w _ hc0) hc0
  have gx0 := cell_grown (World.block_lt_of_cell? w _ x0) x0
  have gx1 := cell_grown (World.block_lt_of_cell? w _ x1) x1
  have gx2 := cell_grown (World.block_lt_of_cell? w _ x2) x2
  have hi1 : (i : Int) < (CH.length : Int) := by omega
  have hi0 : ¬ (i : Int) < 0 := by omega
  have hnw : IntKind.i64.wrap (n : Int) = (n : Int) := by rw [IntKind.wrap_i64]; omega
  have hn1 : (n : Int) < (n : Int) + 1 := by omega
  simp only [Ent.val] at hcall
  clear h hx hne hcc x0 x1 x2 hc0 hS hF hf hP hv
  go_enter Tryz.func158, Tryz.ntmps158
  go_wp2_with fail
  go_quiet_grown (with_reducible exact hcall _ _)
  go_wp2_with fail
  go_ret
  exact ⟨rfl, Lay.of_grown nq osq⟩
theorem bound_of {P : Nat → Bool} : ∀ n, (∀ i j, i ≤ j → j < n → P i = true → P j = true) → ∃ k, k ≤ n ∧ (∀ i, i < k → P i = false) ∧ (∀ i, k ≤ i → i < n → P i = true) ∧ (List.range n).countP (fun i => !P i) = k
  | 0, _ => ⟨0, Nat.le_refl _, fun i h => absurd h (Nat.not_lt_zero _), fun i _ h => absurd h (Nat.not_lt_zero _), rfl⟩
  | n + 1, h => by
    obtain ⟨k, h1, h2, h3, h4⟩ := bound_of n fun i j hij hj => h i j hij (by omega)
    rw [List.range_succ, List.countP_append, h4]
    cases hp : P n with
    | true =>
      refine ⟨k, by omega, h2, fun i hk hi => ?_, by simp [hp]⟩
      by_cases e : i = n
      · rw [e]; exact hp
      · exact h3 i hk (by omega)
    | false =>
      have hk : k = n := by
        by_cases e : k = n
        · exact e
        · have := h k n h1 (Nat.lt_succ_self _) (h3 k (Nat.le_refl _) (by omega))
          rw [hp] at this; cases this
      subst hk
      refine ⟨k + 1, Nat.le_refl _, fun i hi => ?_, fun i hk hi => by omega, by simp [hp]⟩
      by_cases e : i = k
      · rw [e]; exact hp
      · exact h2 i (by omega)
def FirstI (p : Ent → Bool) (CH : List (Value × List (Value × Ent))) (k : Nat) : Prop := k ≤ CH.length ∧ (∀ i (h : i < CH.length), i < k → p (lastE CH[i]) = false) ∧ ∀ i (h : i < CH.length), k ≤ i → p (lastE CH[i]) = true
set_option maxHeartbeats 4000000 in
set_option maxRecDepth 100000 in
theorem first_any {G L : Nat → Prop} {w : World} {lv cv : Value} {ls : List Lab} {CH : List (Value × List (Value × Ent))} (p : Ent → Bool) (g : Nat) (cb : Array Value) (eg : ∀ args w, (callFunc g args).run Tryz.prog w = .ok (.enter g args) w)
    {fb : Nat} (hf : Bl w fb 207 #[lv, cv]) (h : FlowAt G L w lv cv ls CH) (hn : CH.length ≤ 1000000) (hmono : ∀ i j (hi : i < CH.length) (hj : j < CH.length), i ≤ j → p (lastE CH[i]) = true → p (lastE CH[j]) = true)
    (hP : ∀ W, Lay w W → ∀ x ∈ CH, ∀ y ∈ x.2, Calls Tryz.prog g (#[y.2.val y.1] ++ cb) W fun r w' => r = .returned (.bool (p y.2)) ∧ Lay W w') :
    Calls Tryz.prog 151 #[.pointer (some ⟨fb, 0, none⟩), .func (.func g) #[] cb] w fun x w' => ∃ k : Nat, FirstI p CH k ∧ x = .returned (.int .i64 k) ∧ Lay w w' := by
  obtain ⟨k, hk1, hk2, hk3, hk4⟩ := bound_of (P := fun i => p (lastE (CH.getD i (.slice none 0 0, [])))) CH.length fun i j hij hj hp => by
    have hi : i < CH.length := by omega
    simp only [List.getD, hi, hj, List.getElem?_eq_getElem, Option.getD_some] at hp ⊢
    exact hmono i j hi hj hij hp
  have HFI : Hid (FirstI p CH k) := Lib.hid ⟨hk1, fun i hi h => by have := hk2 i h; simpa [List.getD, hi] using this, fun i hi h => by have := hk3 i h hi; simpa [List.getD, hi] using this⟩
  obtain ⟨w1, hw1⟩ : ∃ w1, w1 = (w.alloc (.cells #[.pointer (some ⟨fb, 0, none⟩)] 211)).alloc (.cells #[.func (.func g) #[] cb] 64) := ⟨_, rfl⟩
  have hl1 : Lay w w1 := by rw [hw1]; exact ((Keep.refl _ w).alloc _).alloc _
  have hFB : w1.cell? ⟨w.heap.size, 0, none⟩ = some (.pointer (some ⟨fb, 0, none⟩)) := by
    have h0 := (Bl.new w 211 #[.pointer (some ⟨fb, 0, none⟩)])
    have h1 : Bl w1 w.heap.size 211 #[.pointer (some ⟨fb, 0, none⟩)] := by rw [hw1]; exact (Below.heap_alloc _ _ _ (by simp)).trans h0
    exact h1.cell 0
  have hSB : w1.cell? ⟨w.heap.size + 1, 0, none⟩ = some (.func (.func g) #[] cb) := by
    have h0 := Bl.new (w.alloc (.cells #[.pointer (some ⟨fb, 0, none⟩)] 211)) 64 #[.func (.func g) #[] cb]
    rw [World.size_alloc] at h0
    rw [hw1]; exact h0.cell 0
  have hf1 : Bl w1 fb 207 #[lv, cv] := hf.below (lay_below hl1)
  have hfc : w1.cell? ⟨fb, 1, none⟩ = some cv := hf1.cell 1
  obtain ⟨ca, cc, rfl⟩ := h.c.shape
  have HSR : Hid (Calls Tryz.prog 107 #[.int .i64 CH.length, .func (.func 158) #[] #[.pointer (some ⟨w.heap.size + 1, 0, none⟩), .pointer (some ⟨w.heap.size, 0, none⟩)]] w1 fun e w' => e = .returned (.int .i64 (k : Nat)) ∧ Lay w1 w') := Lib.hid (by
    have h := Any.sort_Search Tryz.search 158 #[.pointer (some ⟨w.heap.size + 1, 0, none⟩), .pointer (some ⟨w.heap.size, 0, none⟩)] CH.length (fun i => p (lastE (CH.getD i (.slice none 0 0, [])))) w1 (enters_of Tryz.func158 (by kernel_rfl) rfl) (by omega)
      (fun mm os i hi => by
        have hlg : Lay w1 (grow (w1.drewN mm) os) := Lay.of_grown mm os
        have hl2 : Lay w (grow (w1.drewN mm) os) := Keep.trans hl1 hlg
        have hgd : CH.getD i (.slice none 0 0, []) = CH[i] := by simp [List.getD, hi]
        rw [hgd]
        exact (first1_any p g cb eg ((hlg.cell (World.block_lt_of_cell? w1 _ hSB)).trans hSB) ((hlg.cell (World.block_lt_of_cell? w1 _ hFB)).trans hFB) ((hlg.cell (World.block_lt_of_cell? w1 _ hfc)).trans hfc) (h.lay hl2) hi
          (fun W hW => hP W (Keep.trans hl2 hW))).mono fun e w' ⟨h1, h2⟩ => ⟨h1, h2.grown⟩)
      (fun i j hij hj hp => by
        have hi : i < CH.length := by omega
        simp only [List.getD, hi, hj, List.getElem?_eq_getElem, Option.getD_some] at hp ⊢
        exact hmono i j hi hj hij hp)
    rw [hk4] at h
    exact h.mono fun e w' ⟨h1, q, os, h2⟩ => ⟨h1, by rw [h2]; exact Lay.of_grown q os⟩)
  have c0 := hf1.cell 0
  have HW1 := Lib.hid hw1.symm
  have HL1 := Lib.hid hl1
  simp only [List.getElem?_toArray, List.getElem?_cons_zero] at c0
  clear hP hmono h hk1 hk2 hk3 hk4 hl1 hw1 hf hf1 eg
  go_enter Tryz.func151, Tryz.ntmps151
  go_upto_region 1 with fail
  rw [HW1.out]
  go_wp2_with fail
  refine HSR.out.mono ?_
  rintro e w2 ⟨rfl, hl2⟩
  have HL2 := Lib.hid (Keep.trans HL1.out hl2)
  clear hl2
  go_wp2_with fail
  go_ret
  exact ⟨k, HFI.out, rfl, HL2.out⟩
end Go.Proofs.YtoobjjpheegmdaaGreat.E4
namespace Go.Proofs.YtoobjjpheegmdaaGreat.E4
open Go.RowKit Go
open Go.Sort (grow)
def BsI (es : List Ent) (e : Ent) (i : Nat) : Prop := i ≤ es.length ∧ (∀ j (h : j < es.length), j < i → entC es[j] e = -1) ∧ ∀ j (h : j < es.length), i ≤ j → entC es[j] e ≠ -1
theorem bs_mem {es : List Ent} {e : Ent} {i : Nat} (hs : Strict entC es) (h : BsI es e i) : e ∈ es ↔ ∃ h : i < es.length, entC es[i] e = 0 := by
  constructor
  · intro hm
    obtain ⟨j, hj, hje⟩ := List.getElem_of_mem hm
    have h0 : entC es[j] e = 0 := by rw [hje]; exact entC_lc.refl e
    have hij : i ≤ j := Nat.le_of_not_lt fun hlt => by have := h.2.1 j hj hlt; omega
    by_cases he : i = j
    · subst he; exact ⟨hj, h0⟩
    · exfalso
      have h1 := (List.pairwise_iff_getElem.1 hs) i j (by omega) hj (by omega)
      rw [hje] at h1
      exact h.2.2 i (by omega) (Nat.le_refl _) h1
  · rintro ⟨hi, h0⟩
    rw [← entC_lc.eq _ _ h0]
    exact List.getElem_mem hi
set_option maxHeartbeats 8000000 in
set_option maxRecDepth 100000 in
theorem bsearch_any {G L H : Nat → Prop} {w : World} {v : Value} {es : List Ent} {e : Ent} {la : Value} (h : EntsAt G L w v es) (he : LabsAt H w la e.labs) (hs : Strict entC es) (hn : es.length ≤ 1000) :
    Calls Tryz.prog 153 #[v, e.val la, .func (.func 109) #[] #[]] w fun x w' => ∃ i, BsI es e i ∧ x = .returned (.tuple #[.int .i64 i, .bool (hasE es e)]) ∧ Lay w w' := by
  have hmx : Tryz.prog.follows .mixedOrders = true := by kernel_rfl
  have eg : ∀ args w, (callFunc 109 args).run Tryz.prog w = .ok (.enter 109 args) w := enters_of Tryz.func109 (by kernel_rfl) rfl
  obtain ⟨a, c, rfl, h63, hc⟩ := id h
  obtain ⟨al, cl, rfl, hl63, _⟩ := id he
  obtain ⟨w1, hw1⟩ : ∃ w1, w1 = w.alloc (.cells #[.int .i64 e.tm, .slice al e.labs.length cl, .string e.line] 32) := ⟨_, rfl⟩
  have hl1 : Lay w w1 := by rw [hw1]; exact (Keep.refl _ w).alloc _
  have hk1 : Bl w1 w.heap.size 32 #[.int .i64 e.tm, .slice al e.labs.length cl, .string e.line] := by rw [hw1]; exact Bl.new w 32 _
  have HW1 := Lib.hid hw1.symm
  have HL1 := Lib.hid hl1
  have HK1 := Lib.hid hk1
  have HC := Lib.hid hc
  have HE := Lib.hid (he.lay hl1)
  have HS := Lib.hid hs
  have HMO : Hid (∀ i j (hi : i < es.length) (hj : j < es.length), i ≤ j → entC es[j] e = -1 → entC es[i] e = -1) := Lib.hid fun i j hi hj hij h1 => by
    by_cases hq : i = j
    · subst hq; exact h1
    · exact entC_lc.tr _ _ _ ((List.pairwise_iff_getElem.1 hs) i j hi hj (by omega)) h1
  clear hc he h hs hl1 hk1 hw1
  unfold Ent.val
  go_enter Tryz.func153, Tryz.ntmps153
  go_upto_region 1 with fail
  rw [HW1.out]
  go_wp2_with fail
  go_loopw [9, 10] (fun vi vj wr => ∃ lo hi : Nat, vi = .int .i64 lo ∧ vj = .int .i64 hi ∧ lo ≤ hi ∧ hi ≤ es.length ∧ (∀ t (h : t < es.length), t < lo → entC es[t] e = -1) ∧ (∀ t (h : t < es.length), hi ≤ t → entC es[t] e ≠ -1) ∧ Lay w1 wr) (fun vi vj _ => (intOf vj).toNat - (intOf vi).toNat)
  case atStart => exact ⟨0, es.length, rfl, rfl, Nat.zero_le _, Nat.le_refl _, fun t _ h => absurd h (Nat.not_lt_zero _), fun t h1 h2 => absurd h1 (by omega), Keep.refl _ _⟩
  case round =>
    obtain ⟨lo, hi, rfl, rfl, hlh, hin, hA, hB, hl⟩ := hrel
    have HA := Lib.hid hA
    have HB := Lib.hid hB
    have HL := Lib.hid hl
    clear hA hB
    by_cases hlt : lo < hi
    · obtain ⟨m, hm⟩ : ∃ m, m = (lo + hi) / 2 := ⟨_, rfl⟩
      have hml : m < es.length := by omega
      rcases HC.out with h0 | ⟨be, oe, rfl, _, hbe, hce⟩
      · exact absurd hml (by rw [h0]; simp)
      obtain ⟨lv, x0, x1, x2, x3⟩ := hce m hml
      have HM := Lib.hid hm
      have hl01 : Lay w wr := Keep.trans HL1.out hl
      generalize hy : es[m] = y at x0 x1 x2 x3
      have HY := Lib.hid hy
      obtain ⟨ay, cy, rfl, hy63, _⟩ := id x3
      have y0 : wr.cell? ⟨be, oe + m * 3, none⟩ = _ := (hl01.cell hbe).trans x0
      have y1 : wr.cell? ⟨be, oe + m * 3 + 1, none⟩ = _ := (hl01.cell hbe).trans x1
      have y2 : wr.cell? ⟨be, oe + m * 3 + 2, none⟩ = _ := (hl01.cell hbe).trans x2
      have hkr := HK1.out.below (lay_below hl)
      have k0 := hkr.cell 0
      have k1 := hkr.cell 1
      have k2 := hkr.cell 2
      simp only [List.getElem?_toArray, List.getElem?_cons_succ, List.getElem?_cons_zero] at k0 k1 k2
      rw [hm] at y0 y1 y2
      have gy0 := cell_grown (World.block_lt_of_cell? wr _ y0) y0
      have gy1 := cell_grown (World.block_lt_of_cell? wr _ y1) y1
      have gy2 := cell_grown (World.block_lt_of_cell? wr _ y2) y2
      have gk0 := cell_grown (World.block_lt_of_cell? wr _ k0) k0
      have gk1 := cell_grown (World.block_lt_of_cell? wr _ k1) k1
      have gk2 := cell_grown (World.block_lt_of_cell? wr _ k2) k2
      have hS : ∀ n os, Calls Tryz.prog 109 #[y.val (.slice ay y.labs.length cy), e.val (.slice al e.labs.length cl)] (Sort.grow (wr.drewN n) os) fun x w'' => x = .returned (.int .i64 (entC y e)) ∧ ∃ p : GrownBy, w'' = Sort.grow (wr.drewN p.n) p.os :=
        fun n os => grown_of_lay (compare_any ((x3.lay hl01).lay (Lay.of_grown n os)) ((HE.out.lay hl).lay (Lay.of_grown n os)))
      simp only [Ent.val] at hS
      have htri := entC_lc.tri y e
      have hj1 : ((lo : Int) + (hi : Int)) / 2 < (es.length : Int) := by omega
      have hj0 : ¬ ((lo : Int) + (hi : Int)) / 2 < 0 := by omega
      have hj2 : (((lo : Int) + (hi : Int)) / 2).toNat = (lo + hi) / 2 := by omega
      clear x0 x1 x2 x3 hce hl hl01 hkr y0 y1 y2 k0 k1 k2 hy63
      by_cases hlo : entC y e = -1
      · have d1 : entC y e < 0 := by omega
        have HLO := Lib.hid hlo
        clear hlo htri hm
        obtain ⟨r, hr⟩ : ∃ r, r = entC y e := ⟨_, rfl⟩
        rw [← hr] at hS d1
        clear hr
        go_wp2_with fail
        go_quiet_grown (with_reducible exact hS _ _)
        go_wp2_with fail
        go_roundw
        case rel =>
          have hmv := HM.out
          exact ⟨m + 1, hi, by rw [show ((lo : Int) + (hi : Int)) / 2 + 1 = ((m + 1 : Nat) : Int) by omega], rfl, by omega, hin, fun t ht h => HMO.out t m ht hml (by omega) (by rw [HY.out]; exact HLO.out), HB.out, Keep.trans HL.out (Lay.of_grown nq osq)⟩
        case measure => simp [intOf]; omega
      · have d1 : ¬ entC y e < 0 := by omega
        have HLO := Lib.hid hlo
        clear hlo htri hm
        obtain ⟨r, hr⟩ : ∃ r, r = entC y e := ⟨_, rfl⟩
        rw [← hr] at hS d1
        clear hr
        go_wp2_with fail
        go_quiet_grown (with_reducible exact hS _ _)
        go_wp2_with fail
        go_roundw
        case rel =>
          have hmv := HM.out
          exact ⟨lo, m, rfl, by rw [show ((lo : Int) + (hi : Int)) / 2 = (m : Int) by omega], by omega, by omega, HA.out, fun t ht h hq => HLO.out (by rw [← HY.out]; exact HMO.out m t hml ht h hq), Keep.trans HL.out (Lay.of_grown nq osq)⟩
        case measure => simp [intOf]; omega
    · obtain rfl : hi = lo := by omega
      have HI : Hid (BsI es e hi) := Lib.hid ⟨hin, HA.out, HB.out⟩
      by_cases hlt2 : hi < es.length
      · rcases HC.out with h0 | ⟨be, oe, rfl, _, hbe, hce⟩
        · exact absurd hlt2 (by rw [h0]; simp)
        obtain ⟨lv, x0, x1, x2, x3⟩ := hce hi hlt2
        have hl01 : Lay w wr := Keep.trans HL1.out hl
        have HME : Hid (hasE es e = decide (entC es[hi] e = 0)) := Lib.hid (by
          rw [Bool.eq_iff_iff, hasE_iff, bs_mem HS.out HI.out, decide_eq_true_iff]
          exact ⟨fun ⟨_, h⟩ => h, fun h => ⟨hlt2, h⟩⟩)
        generalize es[hi] = y at x0 x1 x2 x3 HME
        obtain ⟨ay, cy, rfl, hy63, _⟩ := id x3
        have y0 : wr.cell? ⟨be, oe + hi * 3, none⟩ = _ := (hl01.cell hbe).trans x0
        have y1 : wr.cell? ⟨be, oe + hi * 3 + 1, none⟩ = _ := (hl01.cell hbe).trans x1
        have y2 : wr.cell? ⟨be, oe + hi * 3 + 2, none⟩ = _ := (hl01.cell hbe).trans x2
        have hkr := HK1.out.below (lay_below hl)
        have k0 := hkr.cell 0
        have k1 := hkr.cell 1
        have k2 := hkr.cell 2
        simp only [List.getElem?_toArray, List.getElem?_cons_succ, List.getElem?_cons_zero] at k0 k1 k2
        have gy0 := cell_grown (World.block_lt_of_cell? wr _ y0) y0
        have gy1 := cell_grown (World.block_lt_of_cell? wr _ y1) y1
        have gy2 := cell_grown (World.block_lt_of_cell? wr _ y2) y2
        have gk0 := cell_grown (World.block_lt_of_cell? wr _ k0) k0
        have gk1 := cell_grown (World.block_lt_of_cell? wr _ k1) k1
        have gk2 := cell_grown (World.block_lt_of_cell? wr _ k2) k2
        have hS : ∀ n os, Calls Tryz.prog 109 #[y.val (.slice ay y.labs.length cy), e.val (.slice al e.labs.length cl)] (Sort.grow (wr.drewN n) os) fun x w'' => x = .returned (.int .i64 (entC y e)) ∧ ∃ p : GrownBy, w'' = Sort.grow (wr.drewN p.n) p.os :=
          fun n os => grown_of_lay (compare_any ((x3.lay hl01).lay (Lay.of_grown n os)) ((HE.out.lay hl).lay (Lay.of_grown n os)))
        simp only [Ent.val] at hS
        have d1 : (hi : Int) < (es.length : Int) := by omega
        clear x0 x1 x2 x3 hce hl hl01 hkr y0 y1 y2 k0 k1 k2 hy63
        generalize entC y e = r at hS HME
        have d2 : (r == 0) = decide (r = 0) := by rw [Bool.eq_iff_iff]; simp
        go_wp2_with fail
        go_quiet_grown (with_reducible exact hS _ _)
        go_wp2_with fail
        refine bodyPost_ret (v := .tuple #[.int .i64 hi, .bool (decide (r = 0))]) (by simp [results, Tryz.results153, go_sem]) rfl ⟨hi, HI.out, by rw [HME.out], Keep.trans (Keep.trans HL1.out HL.out) (Lay.of_grown nq osq)⟩
      · have hie : hi = es.length := by omega
        have HME : Hid (hasE es e = false) := Lib.hid (by
          cases hq : hasE es e with
          | false => rfl
          | true => exact absurd ((bs_mem HS.out HI.out).1 (hasE_iff.1 hq)).1 hlt2)
        have d0 : ¬ (hi : Int) < (es.length : Int) := by omega
        have d1 : decide ((hi : Int) < (es.length : Int)) = false := decide_eq_false d0
        clear hie hl
        go_wp2_with fail
        go_quiet (fail)
        go_wp2_with fail
        refine bodyPost_ret (v := .tuple #[.int .i64 hi, .bool false]) (by simp [results, Tryz.results153, go_sem]) rfl ⟨hi, HI.out, by rw [HME.out], Keep.trans (Keep.trans HL1.out HL.out) ((Keep.refl _ _).drewN _)⟩
end Go.Proofs.YtoobjjpheegmdaaGreat.E4
namespace Go.Proofs.YtoobjjpheegmdaaGreat.E4
open Go.RowKit Go
structure LW (c s : Nat) (W0 : World) (H : Nat → Prop) (Out : Value → World → Prop) (Pre : World → Prop) (Post : Value → World → Prop) (listed : Array Bool) (ys : Nat → Value) (W : World) : Prop where
  a : listed.getD c false = false → Lay W0 W
  k : Keep H W0 W
  b : listed.getD c false = true → Out (ys c) W
  p : listed.getD s false = false → Pre W
  q : listed.getD s false = true → Post (ys c) W
def StayL (P : World → Prop) : Prop := ∀ W W', Lay W W' → P W → P W'
theorem LW.start {c s : Nat} {W0 : World} {H : Nat → Prop} {Out : Value → World → Prop} {Pre : World → Prop} {Post : Value → World → Prop} {ys : Nat → Value} {n : Nat} (hP : Pre W0) (hc : (Array.replicate n false).getD c false = false) (hs : (Array.replicate n false).getD s false = false) : LW c s W0 H Out Pre Post (Array.replicate n false) ys W0 :=
  ⟨fun _ => Keep.refl _ _, Keep.refl _ _, fun h => (by rw [hc] at h; cases h), fun _ => hP, fun h => by rw [hs] at h; cases h⟩
theorem LW.other {c s : Nat} {W0 : World} {H : Nat → Prop} {Out : Value → World → Prop} {Pre : World → Prop} {Post : Value → World → Prop} {listed : Array Bool} {ys : Nat → Value} {W W' : World} (h : LW c s W0 H Out Pre Post listed ys W) (hO : ∀ v, StayL (Out v)) (hP : StayL Pre) (hQ : ∀ v, StayL (Post v)) (hl : Lay W W') {i : Nat} (hic : i ≠ c) (his : i ≠ s) (u : Value) :
    LW c s W0 H Out Pre Post (listed.setIfInBounds i true) (H3.upd ys i u) W' := by
  have ec : (listed.setIfInBounds i true).getD c false = listed.getD c false := getD_set_ne false hic
  have es : (listed.setIfInBounds i true).getD s false = listed.getD s false := getD_set_ne false his
  have uc : H3.upd ys i u c = ys c := H3.upd_other ys u (Ne.symm hic)
  refine ⟨fun q => Keep.trans (h.a (ec ▸ q)) hl, Keep.trans h.k (hl.into fun _ _ h => h.elim), fun q => ?_, fun q => hP _ _ hl (h.p (es ▸ q)), fun q => ?_⟩
  · rw [uc]; exact hO _ _ _ hl (h.b (ec ▸ q))
  · rw [uc]; exact hQ _ _ _ hl (h.q (es ▸ q))
theorem LW.call {c s : Nat} {W0 : World} {H : Nat → Prop} {Out : Value → World → Prop} {Pre : World → Prop} {Post : Value → World → Prop} {listed : Array Bool} {ys : Nat → Value} {W W' : World} (h : LW c s W0 H Out Pre Post listed ys W) (hcs : c ≠ s) (hc : c < listed.size) (h2 : listed.getD s false = false) {v : Value} (hk : Keep H W0 W') (ho : Out v W') (hp : Pre W') :
    LW c s W0 H Out Pre Post (listed.setIfInBounds c true) (H3.upd ys c v) W' := by
  have ec : (listed.setIfInBounds c true).getD c false = true := by simp [Array.getD, hc]
  have es : (listed.setIfInBounds c true).getD s false = false := (getD_set_ne false hcs).trans h2
  exact ⟨fun q => (by rw [ec] at q; cases q), hk, fun _ => (by rw [H3.upd_same]; exact ho), fun _ => hp, fun q => (by rw [es] at q; cases q)⟩
theorem LW.store {c s : Nat} {W0 : World} {H : Nat → Prop} {Out : Value → World → Prop} {Pre : World → Prop} {Post : Value → World → Prop} {listed : Array Bool} {ys : Nat → Value} {W W' : World} (h : LW c s W0 H Out Pre Post listed ys W) (hcs : c ≠ s) (hs : s < listed.size) (h2 : listed.getD c false = true) {u : Value} (hk : Keep H W0 W') (ho : Out (ys c) W') (hq : Post (ys c) W') :
    LW c s W0 H Out Pre Post (listed.setIfInBounds s true) (H3.upd ys s u) W' := by
  have es : (listed.setIfInBounds s true).getD s false = true := by simp [Array.getD, hs]
  have ec : (listed.setIfInBounds s true).getD c false = true := (getD_set_ne false (Ne.symm hcs)).trans h2
  exact ⟨fun q => (by rw [ec] at q; cases q), hk, fun _ => (by rw [H3.upd_other _ _ hcs]; exact ho), fun q => (by rw [es] at q; cases q), fun _ => (by rw [H3.upd_other _ _ hcs]; exact hq)⟩
end Go.Proofs.YtoobjjpheegmdaaGreat.E4
