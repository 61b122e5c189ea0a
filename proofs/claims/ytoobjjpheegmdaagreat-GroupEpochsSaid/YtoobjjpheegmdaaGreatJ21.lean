/-
  In14.
-/
import Derived.Test.YtoobjjpheegmdaaGreatJ12
import Derived.Lib.AppendZerosOnto
import Derived.Lib.Overlaps
import Derived.Shelf.Spec.SlicesInsert
namespace Go.Proofs.YtoobjjpheegmdaaGreat.E4
open Go.RowKit Go
theorem infoC : (Tryz.prog.info? 43).map (fun i => (i.zero, i.size, i.bytes)) = some (some (.slice none 0 0), 1, 24) := by kernel_rfl
theorem elemC : ∃ i z, Elem Tryz.prog 205 43 i z 1 24 := by
  obtain ⟨i, hi, hz, hs, hb⟩ := info_parts infoC
  exact ⟨i, _, Tryz.underlying205, hi, hz, hs, hb, by kernel_rfl⟩
theorem run_copy_k {P : Program} (w : World) (dT sT ty elem : TypeId) (k n b o dLen dCap : Nat) (a : Addr) (sLen sCap : Nat) (cs : List Value)
    (hu : P.underlying dT = some (.slice elem)) (hs : (P.info? elem).map (·.size) = some k) (hn : n = Nat.min sLen dLen) (hl : cs.length = n * k)
    (hsrc : ∀ j v, cs[j]? = some v → w.cell? (a.add j) = some v) (hc : ∀ j, j < cs.length → (w.cell? ⟨b, o + j, none⟩).isSome = true) (hf : ∀ j, j < cs.length → w.frozen? ⟨b, o + j, none⟩ = false) (h1 : ∀ v ∈ cs, v.oneCell' = true) :
    (Builtin.copy_ #[dT, sT] ty #[.slice (some ⟨b, o, none⟩) dLen dCap, .slice (some a) sLen sCap]).run P w = .ok (goInt n) (w.setCells b o cs) := by
  have hld := run_loadCells_list (P := P) w a cs hsrc
  have hst := run_storeCells_cells (P := P) b o cs 0 w (by simpa using hc) (by simpa using hf) h1
  cases hq : P.info? elem with
  | none => simp [hq] at hs
  | some i =>
    have hi : i.size = k := by simpa [hq] using hs
    simp [Builtin.copy_, run_underlying hu, Builtin.lenOf, Builtin.firstCells, sizeOf, typeInfo, hq, hi, ← hn, ← hl, hld, hst]
set_option maxHeartbeats 4000000 in
set_option maxRecDepth 100000 in
theorem insE_room {w : World} {g n c i vb : Nat} {xs us : List Value} (hi : i < n) (hroom : n + 1 ≤ c) (hc63 : c ≤ maxLen) (hxl : xs.length = n * 3) (hxs : ∀ j, j < xs.length → w.cell? ⟨g, j, none⟩ = xs[j]?) (hf : ∀ j, j < c * 3 → (w.cell? ⟨g, j, none⟩).isSome = true ∧ w.frozen? ⟨g, j, none⟩ = false)
    (h1 : ∀ u ∈ xs, u.oneCell' = true) (hu : Bl w vb 32 us.toArray) (hul : us.length = 3) (hu1 : ∀ u ∈ us, u.oneCell' = true) (hvb : vb ≠ g) (hn : n ≤ 100000) :
    Calls Tryz.prog 154 #[.slice (some ⟨g, 0, none⟩) n c, .int .i64 i, .slice (some ⟨vb, 0, none⟩) 1 1] w fun e w' =>
      e = .returned (.slice (some ⟨g, 0, none⟩) (n + 1) c) ∧ w' = (w.drew.setCells g ((i + 1) * 3) (xs.drop (i * 3))).setCells g (i * 3) us := by
  have hmx : Tryz.prog.follows .mixedOrders = true := by kernel_rfl
  have hk0 : 0 < n * 3 := by omega
  have hg0 := (hf 0 (by omega)).1
  obtain ⟨v0, hv0⟩ := Option.isSome_iff_exists.1 hg0
  obtain ⟨tB, kB, hsb, hkB, _⟩ := World.shape?_of_cell? hv0
  have hsa : w.shape? vb = some (32, us.toArray.size) := by simp [World.shape?, show w.heap[vb]? = _ from hu]
  have hov : ∀ o lb cb, (callFunc 159 #[.slice (some ⟨vb, 0, none⟩) 1 1, .slice (some ⟨g, o, none⟩) lb cb]).run Tryz.prog w = .ok (.value (.bool false)) w := fun o lb cb => by
    rw [run_callFunc_extern Tryz.func159 (by kernel_rfl) (by kernel_rfl) (by kernel_rfl) (e := Extern.SlicesOverlaps.overlaps #[43, 43] #[4]) (by kernel_rfl),
      Lib.run_overlaps_apart w 43 4 32 Tryz.underlying43 3 Tryz.sizeOf32 ⟨vb, 0, none⟩ ⟨g, o, none⟩ 1 1 lb cb hvb 32 tB us.toArray.size kB hsa hsb (by simp at hkB; omega) (hu.frozen 0) (hu.frozen _)]
    rfl
  have hsz : (Tryz.prog.info? 32).map (·.size) = some 3 := by kernel_rfl
  have hdl : (xs.drop (i * 3)).length = (n - i) * 3 := by rw [List.length_drop, hxl]; omega
  have hi0 : ¬ ((i : Int) = (n : Int)) := by omega
  have hr0 : ¬ ((c : Int) < (n : Int) + 1) := by omega
  have hw1 : IntKind.i64.wrap ((i : Int) + 1) = (i : Int) + 1 := by rw [IntKind.wrap_i64]; omega
  have hb1 : (0 : Int) ≤ (i : Int) + 1 := by omega
  have hin : i ≤ n := by omega
  have htn : ((i : Int) + 1).toNat = i + 1 := by omega
  have hb2 : ¬ (c = i + 1) := by omega
  have hb3 : (i : Int) ≤ (n : Int) + 1 := by omega
  have hb4 : ¬ (c = i) := by omega
  have hcp1 : ∀ ty, (Builtin.copy_ #[43, 43] ty #[.slice (some ⟨g, (i + 1) * 3, none⟩) (n - i) (c - (i + 1)), .slice (some ⟨g, i * 3, none⟩) (n + 1 - i) (c - i)]).run Tryz.prog w.drew = .ok (goInt (n - i : Nat)) (w.drew.setCells g ((i + 1) * 3) (xs.drop (i * 3))) := fun ty =>
    run_copy_k w.drew _ _ ty 32 3 (n - i) g ((i + 1) * 3) (n - i) _ ⟨g, i * 3, none⟩ (n + 1 - i) _ (xs.drop (i * 3)) Tryz.underlying43 hsz (by simp only [Nat.min_def]; split <;> omega) hdl
      (fun j v hj => by
        rw [List.getElem?_drop] at hj
        have hj2 := (List.getElem?_eq_some_iff.1 hj).1
        rw [add_lit, show w.drew.cell? ⟨g, i * 3 + j, none⟩ = w.cell? ⟨g, i * 3 + j, none⟩ from rfl, show i * 3 + j = i * 3 + j by omega, hxs _ hj2]
        exact hj)
      (fun j hj => (hf ((i + 1) * 3 + j) (by rw [hdl] at hj; omega)).1) (fun j hj => (hf ((i + 1) * 3 + j) (by rw [hdl] at hj; omega)).2) (fun v hv => h1 v (List.mem_of_mem_drop hv))
  obtain ⟨W1, hW1⟩ : ∃ W1, W1 = w.drew.setCells g ((i + 1) * 3) (xs.drop (i * 3)) := ⟨_, rfl⟩
  have hsp1 : ∀ q, q < c * 3 → (W1.cell? ⟨g, q, none⟩).isSome = true := fun q hq => by
    rw [hW1]
    exact isSome_setCells g _ _ w.drew (fun j hj => (hf ((i + 1) * 3 + j) (by rw [hdl] at hj; omega)).1) _ (hf q hq).1
  have hfz1 : ∀ q, q < c * 3 → W1.frozen? ⟨g, q, none⟩ = false := fun q hq => by
    rw [hW1, World.frozen?_setCells]
    exact (hf q hq).2
  have hvs1 : ∀ j v, us[j]? = some v → W1.cell? ⟨vb, j, none⟩ = some v := fun j v hj => by
    rw [hW1, World.cell?_setCells_out g _ _ _ _ (fun h _ => absurd h hvb)]
    have := hu.cell j
    simp only [List.getElem?_toArray] at this
    exact this.trans hj
  have hcp2 : ∀ ty, (Builtin.copy_ #[43, 43] ty #[.slice (some ⟨g, i * 3, none⟩) (n + 1 - i) (c - i), .slice (some ⟨vb, 0, none⟩) 1 1]).run Tryz.prog W1 = .ok (goInt (1 : Nat)) (W1.setCells g (i * 3) us) := fun ty =>
    run_copy_k W1 _ _ ty 32 3 1 g (i * 3) (n + 1 - i) _ ⟨vb, 0, none⟩ 1 _ us Tryz.underlying43 hsz (by simp only [Nat.min_def]; split <;> omega) (by rw [hul])
      (fun j v hj => by rw [add_lit, Nat.zero_add]; exact hvs1 j v hj)
      (fun j hj => hsp1 (i * 3 + j) (by omega)) (fun j hj => hfz1 (i * 3 + j) (by omega)) hu1
  rw [← hW1] at hcp1
  have HW1 := Lib.hid hW1
  clear hW1 hsp1 hfz1 hvs1 hxs hf h1 hu1 hsb hkB hv0 hg0 hu hsa
  go_enter Tryz.func154, Tryz.ntmps154
  go_wp2_with (simp only [hov])
  go_region_law_o (refine step_copy_runI rfl _ _ 43 43 rfl (.slice (some ⟨g, (i + 1) * 3, none⟩) (n - i) (c - (i + 1))) (.slice (some ⟨g, i * 3, none⟩) (n + 1 - i) (c - i)) (by simp [Act.eval, Act.put]) (by simp [Act.eval, Act.put]) (hcp1 3) ?_)
  go_wp2_with (at_builtin; refine wpList_copy_runI _ rfl _ _ 43 43 rfl _ _ rfl rfl (hcp2 _) ?_)
  go_ret
  exact ⟨rfl, by rw [HW1.out]⟩
set_option maxHeartbeats 4000000 in
set_option maxRecDepth 100000 in
theorem insE_grow {w : World} {g n c i vb : Nat} {xs us : List Value} (hi : i < n) (hnc : n ≤ c) (hroom : c < n + 1) (hxl : xs.length = n * 3) (hxs : ∀ j, j < xs.length → w.cell? ⟨g, j, none⟩ = xs[j]?)
    (h1 : ∀ u ∈ xs, u.oneCell' = true) (hu : Bl w vb 32 us.toArray) (hul : us.length = 3) (hu1 : ∀ u ∈ us, u.oneCell' = true) (hn : n ≤ 100000) :
    Calls Tryz.prog 154 #[.slice (some ⟨g, 0, none⟩) n c, .int .i64 i, .slice (some ⟨vb, 0, none⟩) 1 1] w fun e w' =>
      ∃ G ROW, n + 1 ≤ G ∧ G ≤ maxLen ∧ ROW.size = G * 3 ∧ (∀ j, j < i * 3 → ROW[j]? = xs[j]?) ∧ e = .returned (.slice (some ⟨w.heap.size, 0, none⟩) (n + 1) G) ∧
        w' = (((w.drew.alloc (.cells ROW 32)).setCells w.heap.size (i * 3) us).drew).setCells w.heap.size ((i + 1) * 3) (xs.drop (i * 3)) := by
  have hmx : Tryz.prog.follows .mixedOrders = true := by kernel_rfl
  obtain ⟨i0, z0, E0⟩ := elem24
  have hgw : g < w.heap.size := block_lt_of_cell ((hxs 0 (by omega)).trans (List.getElem?_eq_getElem (by omega)))
  have hvw : vb < w.heap.size := hu.lt
  have hold : (Builtin.firstCells i0.size i (.slice (some ⟨g, 0, none⟩) i c)).run Tryz.prog w.drew = .ok (xs.take (i * 3)).toArray w.drew := by
    rw [E0.size]
    exact run_firstCells_some w.drew 3 i ⟨g, 0, none⟩ i c (xs.take (i * 3)) (by rw [List.length_take]; omega) (fun j v hj => by
      have hj2 := (List.getElem?_eq_some_iff.1 hj).1
      rw [List.length_take] at hj2
      rw [add_lit0]
      rw [List.getElem?_take_of_lt (by omega)] at hj
      exact (hxs j (by omega)).trans hj)
  have hz0 : 0 < i0.size := by rw [E0.size]; decide
  have hin1 : i + (n + 1 - i) = n + 1 := by omega
  have hrz : ∀ ty, (Builtin.append_ #[43, 3] ty #[.slice (some ⟨g, 0, none⟩) i c, .int .i64 ((n : Int) + 1 - (i : Int))]).run Tryz.prog w =
      .ok (.slice (some ⟨w.heap.size, 0, none⟩) (n + 1) (grownCap w (n + 1) c 32)) (w.drew.alloc (.cells ((xs.take (i * 3)).toArray ++ Builtin.zeroCells z0.cells (n + 1 - i) ++ Builtin.zeroCells z0.cells (grownCap w (n + 1) c 32 - (n + 1))) 32)) := fun ty => by
    have h := Lib.run_append_grow_zeros w 43 3 ty 32 i0 _ .i64 .i64 Tryz.underlying43 Tryz.underlying3 E0.info E0.zero (some ⟨g, 0, none⟩) i c (xs.take (i * 3)) hold (n + 1 - i) (by omega) hz0 (by omega) (by omega) (by rw [E0.bytes]; omega) (by rw [E0.bytes, hin1]; exact growslice_fits hroom (by omega))
    rw [hin1] at h
    rw [show (n : Int) + 1 - (i : Int) = ((n + 1 - i : Nat) : Int) by omega]
    exact h
  have hGn : n + 1 ≤ grownCap w (n + 1) c 32 := grownCap_ge w _ _ _
  have hG63 : grownCap w (n + 1) c 32 ≤ maxLen := grownCap_le_maxLen w (n + 1) c 32 (by unfold maxLen; omega)
  have hRs : ((xs.take (i * 3)).toArray ++ Builtin.zeroCells z0.cells (n + 1 - i) ++ Builtin.zeroCells z0.cells (grownCap w (n + 1) c 32 - (n + 1))).size = grownCap w (n + 1) c 32 * 3 := by
    rw [Array.size_append, Array.size_append, size_zeroCells, size_zeroCells, E0.cells, List.size_toArray, List.length_take, hxl]
    generalize grownCap w (n + 1) c 32 = G at hGn ⊢
    omega
  have hRx : ∀ j, j < i * 3 → ((xs.take (i * 3)).toArray ++ Builtin.zeroCells z0.cells (n + 1 - i) ++ Builtin.zeroCells z0.cells (grownCap w (n + 1) c 32 - (n + 1)))[j]? = xs[j]? := fun j hj => by
    have hl : (xs.take (i * 3)).toArray.size = i * 3 := by rw [List.size_toArray, List.length_take]; omega
    rw [Array.getElem?_append_left (by rw [Array.size_append]; omega), Array.getElem?_append_left (by omega), List.getElem?_toArray, List.getElem?_take_of_lt hj]
  generalize grownCap w (n + 1) c 32 = G at hrz hGn hG63 hRs hRx
  generalize ((xs.take (i * 3)).toArray ++ Builtin.zeroCells z0.cells (n + 1 - i) ++ Builtin.zeroCells z0.cells (G - (n + 1))) = ROW at hrz hRs hRx
  obtain ⟨W1, hW1⟩ : ∃ W1, W1 = w.drew.alloc (.cells ROW 32) := ⟨_, rfl⟩
  rw [← hW1] at hrz
  have hsz : (Tryz.prog.info? 32).map (·.size) = some 3 := by kernel_rfl
  have hN : ∀ j, j < G * 3 → (W1.cell? ⟨w.heap.size, j, none⟩).isSome = true := fun j hj => by
    rw [hW1, World.cell?_alloc_at (w := w.drew) ROW _ w.heap.size j rfl, Array.getElem?_eq_getElem (by omega)]; rfl
  have hNf : ∀ j, W1.frozen? ⟨w.heap.size, j, none⟩ = false := fun j => by rw [hW1]; exact World.frozen?_alloc_at (w := w.drew) ROW _ w.heap.size j rfl
  have hOb : ∀ b j, b < w.heap.size → W1.cell? ⟨b, j, none⟩ = w.cell? ⟨b, j, none⟩ := fun b j hb => by rw [hW1, World.cell?_alloc_past (w := w.drew) _ b j hb]; rfl
  have hcp1 : ∀ ty, (Builtin.copy_ #[43, 43] ty #[.slice (some ⟨w.heap.size, i * 3, none⟩) (n + 1 - i) (G - i), .slice (some ⟨vb, 0, none⟩) 1 1]).run Tryz.prog W1 = .ok (goInt (1 : Nat)) (W1.setCells w.heap.size (i * 3) us) := fun ty =>
    run_copy_k W1 _ _ ty 32 3 1 w.heap.size (i * 3) (n + 1 - i) _ ⟨vb, 0, none⟩ 1 _ us Tryz.underlying43 hsz (by simp only [Nat.min_def]; split <;> omega) (by rw [hul])
      (fun j v hj => by
        rw [add_lit, Nat.zero_add, hOb vb j hvw]
        have := hu.cell j
        simp only [List.getElem?_toArray] at this
        exact this.trans hj)
      (fun j hj => hN (i * 3 + j) (by omega)) (fun j hj => hNf _) hu1
  obtain ⟨W2, hW2⟩ : ∃ W2, W2 = W1.setCells w.heap.size (i * 3) us := ⟨_, rfl⟩
  rw [← hW2] at hcp1
  have hdl : (xs.drop (i * 3)).length = (n - i) * 3 := by rw [List.length_drop, hxl]; omega
  have hcp2 : ∀ ty, (Builtin.copy_ #[43, 43] ty #[.slice (some ⟨w.heap.size, (i + 1) * 3, none⟩) (n - i) (G - (i + 1)), .slice (some ⟨g, i * 3, none⟩) (n - i) (c - i)]).run Tryz.prog W2.drew = .ok (goInt (n - i : Nat)) (W2.drew.setCells w.heap.size ((i + 1) * 3) (xs.drop (i * 3))) := fun ty =>
    run_copy_k W2.drew _ _ ty 32 3 (n - i) w.heap.size ((i + 1) * 3) (n - i) _ ⟨g, i * 3, none⟩ (n - i) _ (xs.drop (i * 3)) Tryz.underlying43 hsz (by simp only [Nat.min_def]; split <;> omega) hdl
      (fun j v hj => by
        rw [List.getElem?_drop] at hj
        have hj2 := (List.getElem?_eq_some_iff.1 hj).1
        rw [add_lit, show W2.drew.cell? ⟨g, i * 3 + j, none⟩ = W2.cell? ⟨g, i * 3 + j, none⟩ from rfl, hW2, World.cell?_setCells_out _ _ _ _ _ (fun h _ => absurd h (by show g ≠ w.heap.size; omega)), hOb g _ hgw, show i * 3 + j = i * 3 + j by omega, hxs _ hj2]
        exact hj)
      (fun j hj => by
        rw [hdl] at hj
        rw [show W2.drew.cell? ⟨w.heap.size, (i + 1) * 3 + j, none⟩ = W2.cell? ⟨w.heap.size, (i + 1) * 3 + j, none⟩ from rfl, hW2]
        exact isSome_setCells _ _ _ _ (fun t ht => hN (i * 3 + t) (by omega)) _ (hN ((i + 1) * 3 + j) (by omega)))
      (fun j hj => by rw [show W2.drew.frozen? ⟨w.heap.size, (i + 1) * 3 + j, none⟩ = W2.frozen? ⟨w.heap.size, (i + 1) * 3 + j, none⟩ from rfl, hW2, World.frozen?_setCells]; exact hNf _) (fun v hv => h1 v (List.mem_of_mem_drop hv))
  have hi0 : ¬ ((i : Int) = (n : Int)) := by omega
  have hr0 : (c : Int) < (n : Int) + 1 := by omega
  have hw1 : IntKind.i64.wrap ((i : Int) + 1) = (i : Int) + 1 := by rw [IntKind.wrap_i64]; omega
  have hb1 : (0 : Int) ≤ (i : Int) + 1 := by omega
  have hin : i ≤ n := by omega
  have htn : ((i : Int) + 1).toNat = i + 1 := by omega
  have hb2 : ¬ (G = i + 1) := by omega
  have hb3 : (i : Int) ≤ (n : Int) + 1 := by omega
  have hb4 : ¬ (c = i) := by omega
  have hb5 : ¬ (G = i) := by omega
  have HWW : Hid (W2.drew = ((w.drew.alloc (.cells ROW 32)).setCells w.heap.size (i * 3) us).drew) := Lib.hid (by rw [hW2, hW1])
  have HRR := Lib.hid (And.intro hRs hRx)
  have HGG := Lib.hid (And.intro hGn hG63)
  clear hW1 hW2 hN hNf hOb hxs h1 hu1 hu hRs hRx hold E0 hdl hxl
  go_enter Tryz.func154, Tryz.ntmps154
  go_wp2_with (first | (at_builtin; refine Lib.wpList_append_run _ rfl _ _ _ _ rfl _ _ rfl rfl _ _ (hrz _) ?_) | (at_builtin; refine wpList_copy_runI _ rfl _ _ 43 43 rfl _ _ rfl rfl (hcp1 _) ?_))
  go_region_law_o (refine step_copy_runI rfl _ _ 43 43 rfl (.slice (some ⟨w.heap.size, (i + 1) * 3, none⟩) (n - i) (G - (i + 1))) (.slice (some ⟨g, i * 3, none⟩) (n - i) (c - i)) (by simp [Act.eval, Act.put]) (by simp [Act.eval, Act.put]) (hcp2 3) ?_)
  go_wp2_with fail
  go_ret
  exact ⟨G, ROW, HGG.out.1, HGG.out.2, HRR.out.1, HRR.out.2, rfl, by rw [HWW.out]⟩
set_option maxHeartbeats 4000000 in
set_option maxRecDepth 100000 in
theorem insC_room {w : World} {g n c i vb : Nat} {xs us : List Value} (hi : i < n) (hroom : n + 1 ≤ c) (hc63 : c ≤ maxLen) (hxl : xs.length = n * 1) (hxs : ∀ j, j < xs.length → w.cell? ⟨g, j, none⟩ = xs[j]?) (hf : ∀ j, j < c * 1 → (w.cell? ⟨g, j, none⟩).isSome = true ∧ w.frozen? ⟨g, j, none⟩ = false)
    (h1 : ∀ u ∈ xs, u.oneCell' = true) (hu : Bl w vb 43 us.toArray) (hul : us.length = 1) (hu1 : ∀ u ∈ us, u.oneCell' = true) (hvb : vb ≠ g) (hn : n ≤ 100000) :
    Calls Tryz.prog 161 #[.slice (some ⟨g, 0, none⟩) n c, .int .i64 i, .slice (some ⟨vb, 0, none⟩) 1 1] w fun e w' =>
      e = .returned (.slice (some ⟨g, 0, none⟩) (n + 1) c) ∧ w' = (w.drew.setCells g (i + 1) (xs.drop (i * 1))).setCells g (i) us := by
  have hmx : Tryz.prog.follows .mixedOrders = true := by kernel_rfl
  have hk0 : 0 < n * 1 := by omega
  have hg0 := (hf 0 (by omega)).1
  obtain ⟨v0, hv0⟩ := Option.isSome_iff_exists.1 hg0
  obtain ⟨tB, kB, hsb, hkB, _⟩ := World.shape?_of_cell? hv0
  have hsa : w.shape? vb = some (43, us.toArray.size) := by simp [World.shape?, show w.heap[vb]? = _ from hu]
  have hov : ∀ o lb cb, (callFunc 166 #[.slice (some ⟨vb, 0, none⟩) 1 1, .slice (some ⟨g, o, none⟩) lb cb]).run Tryz.prog w = .ok (.value (.bool false)) w := fun o lb cb => by
    rw [run_callFunc_extern Tryz.func166 (by kernel_rfl) (by kernel_rfl) (by kernel_rfl) (e := Extern.SlicesOverlaps.overlaps #[205, 205] #[4]) (by kernel_rfl),
      Lib.run_overlaps_apart w 205 4 43 Tryz.underlying205 1 Tryz.sizeOf43 ⟨vb, 0, none⟩ ⟨g, o, none⟩ 1 1 lb cb hvb 43 tB us.toArray.size kB hsa hsb (by simp at hkB; omega) (hu.frozen 0) (hu.frozen _)]
    rfl
  have hsz : (Tryz.prog.info? 43).map (·.size) = some 1 := by kernel_rfl
  have hdl : (xs.drop (i * 1)).length = (n - i) * 1 := by rw [List.length_drop, hxl]; omega
  have hi0 : ¬ ((i : Int) = (n : Int)) := by omega
  have hr0 : ¬ ((c : Int) < (n : Int) + 1) := by omega
  have hw1 : IntKind.i64.wrap ((i : Int) + 1) = (i : Int) + 1 := by rw [IntKind.wrap_i64]; omega
  have hb1 : (0 : Int) ≤ (i : Int) + 1 := by omega
  have hin : i ≤ n := by omega
  have htn : ((i : Int) + 1).toNat = i + 1 := by omega
  have hb2 : ¬ (c = i + 1) := by omega
  have hb3 : (i : Int) ≤ (n : Int) + 1 := by omega
  have hb4 : ¬ (c = i) := by omega
  have hcp1 : ∀ ty, (Builtin.copy_ #[205, 205] ty #[.slice (some ⟨g, i + 1, none⟩) (n - i) (c - (i + 1)), .slice (some ⟨g, i, none⟩) (n + 1 - i) (c - i)]).run Tryz.prog w.drew = .ok (goInt (n - i : Nat)) (w.drew.setCells g (i + 1) (xs.drop (i * 1))) := fun ty =>
    run_copy_k w.drew _ _ ty 43 1 (n - i) g (i + 1) (n - i) _ ⟨g, i, none⟩ (n + 1 - i) _ (xs.drop (i * 1)) Tryz.underlying205 hsz (by simp only [Nat.min_def]; split <;> omega) hdl
      (fun j v hj => by
        rw [List.getElem?_drop] at hj
        have hj2 := (List.getElem?_eq_some_iff.1 hj).1
        rw [add_lit, show w.drew.cell? ⟨g, i + j, none⟩ = w.cell? ⟨g, i + j, none⟩ from rfl, show i + j = i * 1 + j by omega, hxs _ hj2]
        exact hj)
      (fun j hj => (hf (i + 1 + j) (by rw [hdl] at hj; omega)).1) (fun j hj => (hf (i + 1 + j) (by rw [hdl] at hj; omega)).2) (fun v hv => h1 v (List.mem_of_mem_drop hv))
  obtain ⟨W1, hW1⟩ : ∃ W1, W1 = w.drew.setCells g (i + 1) (xs.drop (i * 1)) := ⟨_, rfl⟩
  have hsp1 : ∀ q, q < c * 1 → (W1.cell? ⟨g, q, none⟩).isSome = true := fun q hq => by
    rw [hW1]
    exact isSome_setCells g _ _ w.drew (fun j hj => (hf (i + 1 + j) (by rw [hdl] at hj; omega)).1) _ (hf q hq).1
  have hfz1 : ∀ q, q < c * 1 → W1.frozen? ⟨g, q, none⟩ = false := fun q hq => by
    rw [hW1, World.frozen?_setCells]
    exact (hf q hq).2
  have hvs1 : ∀ j v, us[j]? = some v → W1.cell? ⟨vb, j, none⟩ = some v := fun j v hj => by
    rw [hW1, World.cell?_setCells_out g _ _ _ _ (fun h _ => absurd h hvb)]
    have := hu.cell j
    simp only [List.getElem?_toArray] at this
    exact this.trans hj
  have hcp2 : ∀ ty, (Builtin.copy_ #[205, 205] ty #[.slice (some ⟨g, i, none⟩) (n + 1 - i) (c - i), .slice (some ⟨vb, 0, none⟩) 1 1]).run Tryz.prog W1 = .ok (goInt (1 : Nat)) (W1.setCells g (i) us) := fun ty =>
    run_copy_k W1 _ _ ty 43 1 1 g (i) (n + 1 - i) _ ⟨vb, 0, none⟩ 1 _ us Tryz.underlying205 hsz (by simp only [Nat.min_def]; split <;> omega) (by rw [hul])
      (fun j v hj => by rw [add_lit, Nat.zero_add]; exact hvs1 j v hj)
      (fun j hj => hsp1 (i + j) (by omega)) (fun j hj => hfz1 (i + j) (by omega)) hu1
  rw [← hW1] at hcp1
  have HW1 := Lib.hid hW1
  clear hW1 hsp1 hfz1 hvs1 hxs hf h1 hu1 hsb hkB hv0 hg0 hu hsa
  go_enter Tryz.func161, Tryz.ntmps161
  go_wp2_with (simp only [hov])
  go_region_law_o (refine step_copy_runI rfl _ _ 205 205 rfl (.slice (some ⟨g, i + 1, none⟩) (n - i) (c - (i + 1))) (.slice (some ⟨g, i, none⟩) (n + 1 - i) (c - i)) (by simp [Act.eval, Act.put]) (by simp [Act.eval, Act.put]) (hcp1 3) ?_)
  go_wp2_with (at_builtin; refine wpList_copy_runI _ rfl _ _ 205 205 rfl _ _ rfl rfl (hcp2 _) ?_)
  go_ret
  exact ⟨rfl, by rw [HW1.out]⟩
set_option maxHeartbeats 4000000 in
set_option maxRecDepth 100000 in
theorem insC_grow {w : World} {g n c i vb : Nat} {xs us : List Value} (hi : i < n) (hnc : n ≤ c) (hroom : c < n + 1) (hxl : xs.length = n * 1) (hxs : ∀ j, j < xs.length → w.cell? ⟨g, j, none⟩ = xs[j]?)
    (h1 : ∀ u ∈ xs, u.oneCell' = true) (hu : Bl w vb 43 us.toArray) (hul : us.length = 1) (hu1 : ∀ u ∈ us, u.oneCell' = true) (hn : n ≤ 100000) :
    Calls Tryz.prog 161 #[.slice (some ⟨g, 0, none⟩) n c, .int .i64 i, .slice (some ⟨vb, 0, none⟩) 1 1] w fun e w' =>
      ∃ G ROW, n + 1 ≤ G ∧ G ≤ maxLen ∧ ROW.size = G * 1 ∧ (∀ j, j < i * 1 → ROW[j]? = xs[j]?) ∧ e = .returned (.slice (some ⟨w.heap.size, 0, none⟩) (n + 1) G) ∧
        w' = (((w.drew.alloc (.cells ROW 43)).setCells w.heap.size (i) us).drew).setCells w.heap.size (i + 1) (xs.drop (i * 1)) := by
  have hmx : Tryz.prog.follows .mixedOrders = true := by kernel_rfl
  obtain ⟨i0, z0, E0⟩ := elemC
  have hgw : g < w.heap.size := block_lt_of_cell ((hxs 0 (by omega)).trans (List.getElem?_eq_getElem (by omega)))
  have hvw : vb < w.heap.size := hu.lt
  have hold : (Builtin.firstCells i0.size i (.slice (some ⟨g, 0, none⟩) i c)).run Tryz.prog w.drew = .ok (xs.take (i * 1)).toArray w.drew := by
    rw [E0.size]
    exact run_firstCells_some w.drew 1 i ⟨g, 0, none⟩ i c (xs.take (i * 1)) (by rw [List.length_take]; omega) (fun j v hj => by
      have hj2 := (List.getElem?_eq_some_iff.1 hj).1
      rw [List.length_take] at hj2
      rw [add_lit0]
      rw [List.getElem?_take_of_lt (by omega)] at hj
      exact (hxs j (by omega)).trans hj)
  have hz0 : 0 < i0.size := by rw [E0.size]; decide
  have hin1 : i + (n + 1 - i) = n + 1 := by omega
  have hrz : ∀ ty, (Builtin.append_ #[205, 3] ty #[.slice (some ⟨g, 0, none⟩) i c, .int .i64 ((n : Int) + 1 - (i : Int))]).run Tryz.prog w =
      .ok (.slice (some ⟨w.heap.size, 0, none⟩) (n + 1) (grownCap w (n + 1) c 43)) (w.drew.alloc (.cells ((xs.take (i * 1)).toArray ++ Builtin.zeroCells z0.cells (n + 1 - i) ++ Builtin.zeroCells z0.cells (grownCap w (n + 1) c 43 - (n + 1))) 43)) := fun ty => by
    have h := Lib.run_append_grow_zeros w 205 3 ty 43 i0 _ .i64 .i64 Tryz.underlying205 Tryz.underlying3 E0.info E0.zero (some ⟨g, 0, none⟩) i c (xs.take (i * 1)) hold (n + 1 - i) (by omega) hz0 (by omega) (by omega) (by rw [E0.bytes]; omega) (by rw [E0.bytes, hin1]; exact growslice_fits hroom (by omega))
    rw [hin1] at h
    rw [show (n : Int) + 1 - (i : Int) = ((n + 1 - i : Nat) : Int) by omega]
    exact h
  have hGn : n + 1 ≤ grownCap w (n + 1) c 43 := grownCap_ge w _ _ _
  have hG63 : grownCap w (n + 1) c 43 ≤ maxLen := grownCap_le_maxLen w (n + 1) c 43 (by unfold maxLen; omega)
  have hRs : ((xs.take (i * 1)).toArray ++ Builtin.zeroCells z0.cells (n + 1 - i) ++ Builtin.zeroCells z0.cells (grownCap w (n + 1) c 43 - (n + 1))).size = grownCap w (n + 1) c 43 * 1 := by
    rw [Array.size_append, Array.size_append, size_zeroCells, size_zeroCells, E0.cells, List.size_toArray, List.length_take, hxl]
    generalize grownCap w (n + 1) c 43 = G at hGn ⊢
    omega
  have hRx : ∀ j, j < i * 1 → ((xs.take (i * 1)).toArray ++ Builtin.zeroCells z0.cells (n + 1 - i) ++ Builtin.zeroCells z0.cells (grownCap w (n + 1) c 43 - (n + 1)))[j]? = xs[j]? := fun j hj => by
    have hl : (xs.take (i * 1)).toArray.size = i * 1 := by rw [List.size_toArray, List.length_take]; omega
    rw [Array.getElem?_append_left (by rw [Array.size_append]; omega), Array.getElem?_append_left (by omega), List.getElem?_toArray, List.getElem?_take_of_lt hj]
  generalize grownCap w (n + 1) c 43 = G at hrz hGn hG63 hRs hRx
  generalize ((xs.take (i * 1)).toArray ++ Builtin.zeroCells z0.cells (n + 1 - i) ++ Builtin.zeroCells z0.cells (G - (n + 1))) = ROW at hrz hRs hRx
  obtain ⟨W1, hW1⟩ : ∃ W1, W1 = w.drew.alloc (.cells ROW 43) := ⟨_, rfl⟩
  rw [← hW1] at hrz
  have hsz : (Tryz.prog.info? 43).map (·.size) = some 1 := by kernel_rfl
  have hN : ∀ j, j < G * 1 → (W1.cell? ⟨w.heap.size, j, none⟩).isSome = true := fun j hj => by
    rw [hW1, World.cell?_alloc_at (w := w.drew) ROW _ w.heap.size j rfl, Array.getElem?_eq_getElem (by omega)]; rfl
  have hNf : ∀ j, W1.frozen? ⟨w.heap.size, j, none⟩ = false := fun j => by rw [hW1]; exact World.frozen?_alloc_at (w := w.drew) ROW _ w.heap.size j rfl
  have hOb : ∀ b j, b < w.heap.size → W1.cell? ⟨b, j, none⟩ = w.cell? ⟨b, j, none⟩ := fun b j hb => by rw [hW1, World.cell?_alloc_past (w := w.drew) _ b j hb]; rfl
  have hcp1 : ∀ ty, (Builtin.copy_ #[205, 205] ty #[.slice (some ⟨w.heap.size, i, none⟩) (n + 1 - i) (G - i), .slice (some ⟨vb, 0, none⟩) 1 1]).run Tryz.prog W1 = .ok (goInt (1 : Nat)) (W1.setCells w.heap.size (i) us) := fun ty =>
    run_copy_k W1 _ _ ty 43 1 1 w.heap.size (i) (n + 1 - i) _ ⟨vb, 0, none⟩ 1 _ us Tryz.underlying205 hsz (by simp only [Nat.min_def]; split <;> omega) (by rw [hul])
      (fun j v hj => by
        rw [add_lit, Nat.zero_add, hOb vb j hvw]
        have := hu.cell j
        simp only [List.getElem?_toArray] at this
        exact this.trans hj)
      (fun j hj => hN (i + j) (by omega)) (fun j hj => hNf _) hu1
  obtain ⟨W2, hW2⟩ : ∃ W2, W2 = W1.setCells w.heap.size (i) us := ⟨_, rfl⟩
  rw [← hW2] at hcp1
  have hdl : (xs.drop (i * 1)).length = (n - i) * 1 := by rw [List.length_drop, hxl]; omega
  have hcp2 : ∀ ty, (Builtin.copy_ #[205, 205] ty #[.slice (some ⟨w.heap.size, i + 1, none⟩) (n - i) (G - (i + 1)), .slice (some ⟨g, i, none⟩) (n - i) (c - i)]).run Tryz.prog W2.drew = .ok (goInt (n - i : Nat)) (W2.drew.setCells w.heap.size (i + 1) (xs.drop (i * 1))) := fun ty =>
    run_copy_k W2.drew _ _ ty 43 1 (n - i) w.heap.size (i + 1) (n - i) _ ⟨g, i, none⟩ (n - i) _ (xs.drop (i * 1)) Tryz.underlying205 hsz (by simp only [Nat.min_def]; split <;> omega) hdl
      (fun j v hj => by
        rw [List.getElem?_drop] at hj
        have hj2 := (List.getElem?_eq_some_iff.1 hj).1
        rw [add_lit, show W2.drew.cell? ⟨g, i + j, none⟩ = W2.cell? ⟨g, i + j, none⟩ from rfl, hW2, World.cell?_setCells_out _ _ _ _ _ (fun h _ => absurd h (by show g ≠ w.heap.size; omega)), hOb g _ hgw, show i + j = i * 1 + j by omega, hxs _ hj2]
        exact hj)
      (fun j hj => by
        rw [hdl] at hj
        rw [show W2.drew.cell? ⟨w.heap.size, i + 1 + j, none⟩ = W2.cell? ⟨w.heap.size, i + 1 + j, none⟩ from rfl, hW2]
        exact isSome_setCells _ _ _ _ (fun t ht => hN (i + t) (by omega)) _ (hN (i + 1 + j) (by omega)))
      (fun j hj => by rw [show W2.drew.frozen? ⟨w.heap.size, i + 1 + j, none⟩ = W2.frozen? ⟨w.heap.size, i + 1 + j, none⟩ from rfl, hW2, World.frozen?_setCells]; exact hNf _) (fun v hv => h1 v (List.mem_of_mem_drop hv))
  have hi0 : ¬ ((i : Int) = (n : Int)) := by omega
  have hr0 : (c : Int) < (n : Int) + 1 := by omega
  have hw1 : IntKind.i64.wrap ((i : Int) + 1) = (i : Int) + 1 := by rw [IntKind.wrap_i64]; omega
  have hb1 : (0 : Int) ≤ (i : Int) + 1 := by omega
  have hin : i ≤ n := by omega
  have htn : ((i : Int) + 1).toNat = i + 1 := by omega
  have hb2 : ¬ (G = i + 1) := by omega
  have hb3 : (i : Int) ≤ (n : Int) + 1 := by omega
  have hb4 : ¬ (c = i) := by omega
  have hb5 : ¬ (G = i) := by omega
  have HWW : Hid (W2.drew = ((w.drew.alloc (.cells ROW 43)).setCells w.heap.size (i) us).drew) := Lib.hid (by rw [hW2, hW1])
  have HRR := Lib.hid (And.intro hRs hRx)
  have HGG := Lib.hid (And.intro hGn hG63)
  clear hW1 hW2 hN hNf hOb hxs h1 hu1 hu hRs hRx hold E0 hdl hxl
  go_enter Tryz.func161, Tryz.ntmps161
  go_wp2_with (first | (at_builtin; refine Lib.wpList_append_run _ rfl _ _ _ _ rfl _ _ rfl rfl _ _ (hrz _) ?_) | (at_builtin; refine wpList_copy_runI _ rfl _ _ 205 205 rfl _ _ rfl rfl (hcp1 _) ?_))
  go_region_law_o (refine step_copy_runI rfl _ _ 205 205 rfl (.slice (some ⟨w.heap.size, i + 1, none⟩) (n - i) (G - (i + 1))) (.slice (some ⟨g, i, none⟩) (n - i) (c - i)) (by simp [Act.eval, Act.put]) (by simp [Act.eval, Act.put]) (hcp2 3) ?_)
  go_wp2_with fail
  go_ret
  exact ⟨G, ROW, HGG.out.1, HGG.out.2, HRR.out.1, HRR.out.2, rfl, by rw [HWW.out]; simp⟩
theorem ins_cells {W : World} {g n i k : Nat} {xs us : List Value} (hi : i ≤ n) (hxl : xs.length = n * k) (hul : us.length = k) (hA : ∀ j, j < i * k → W.cell? ⟨g, j, none⟩ = xs[j]?) (hB : ∀ t, t < k → W.cell? ⟨g, i * k + t, none⟩ = us[t]?) (hC : ∀ t, t < (n - i) * k → W.cell? ⟨g, (i + 1) * k + t, none⟩ = xs[i * k + t]?) :
    ∀ j, j < (xs.take (i * k) ++ (us ++ xs.drop (i * k))).length → W.cell? ⟨g, j, none⟩ = (xs.take (i * k) ++ (us ++ xs.drop (i * k)))[j]? := by
  have hik : i * k ≤ n * k := Nat.mul_le_mul_right k hi
  have hsub : (n - i) * k = n * k - i * k := Nat.sub_mul ..
  have hadd : (i + 1) * k = i * k + k := Nat.succ_mul ..
  have htl : (xs.take (i * k)).length = i * k := by rw [List.length_take]; omega
  intro j hj
  rw [List.length_append, List.length_append, List.length_drop, htl, hul, hxl] at hj
  by_cases h1 : j < i * k
  · rw [List.getElem?_append_left (by omega), List.getElem?_take_of_lt h1]
    exact hA j h1
  · rw [List.getElem?_append_right (by omega), htl]
    by_cases h2 : j - i * k < k
    · rw [List.getElem?_append_left (by omega), ← hB _ h2]
      congr 2
      omega
    · rw [List.getElem?_append_right (by omega), hul, List.getElem?_drop, ← hC _ (by omega)]
      congr 2
      omega
theorem ins_len {n i k : Nat} {xs us : List Value} (hi : i ≤ n) (hxl : xs.length = n * k) (hul : us.length = k) : (xs.take (i * k) ++ (us ++ xs.drop (i * k))).length = (n + 1) * k := by
  have hik : i * k ≤ n * k := Nat.mul_le_mul_right k hi
  have hadd : (n + 1) * k = n * k + k := Nat.succ_mul ..
  rw [List.length_append, List.length_append, List.length_drop, List.length_take]
  omega
set_option maxHeartbeats 4000000 in
set_option maxRecDepth 100000 in
theorem insE_end {w : World} {v : Value} {n vb : Nat} {xs us : List Value} (h : Rk 3 (fun _ => True) w v n xs) (hu : Bl w vb 32 us.toArray) (hul : us.length = 3) (hu1 : ∀ u ∈ us, u.oneCell' = true) (hn : n ≤ 100000) :
    Calls Tryz.prog 154 #[v, .int .i64 n, .slice (some ⟨vb, 0, none⟩) 1 1] w fun e w' =>
      ∃ v', e = .returned v' ∧ Rk 3 (fun b => At v b ∨ w.heap.size ≤ b) w' v' (n + 1) (xs ++ us) ∧ Keep (At v) w w' := by
  have hmx : Tryz.prog.follows .mixedOrders = true := by kernel_rfl
  obtain ⟨i0, z0, E0⟩ := elem24
  have hsrc : Src Tryz.prog 3 43 (.slice (some ⟨vb, 0, none⟩) 1 1) 1 us w := Src.ofSlice w Tryz.underlying43 ⟨vb, 0, none⟩ 1 1 us (by omega) (fun j u hj => by
    rw [add_lit0]
    have := hu.cell j
    simp only [List.getElem?_toArray] at this
    exact this.trans hj) hu1
  have HS := Lib.hid hsrc
  have HH := Lib.hid h
  rcases id h with ⟨_, ⟨rfl, rfl⟩ | ⟨g, c, rfl, _, _, hlc, _⟩⟩
  · clear hsrc h hu hu1
    go_enter Tryz.func154, Tryz.ntmps154
    go_wp2_with (at_builtin; refine wpList_append_rk E0 _ rfl _ _ 43 rfl (G := fun _ => True) rfl HH.out (fun _ _ => trivial) _ 1 us rfl HS.out (by omega) (by omega) ?_)
    intro v' w1 hr hk
    have HR := Lib.hid hr
    have HK := Lib.hid hk
    clear hr hk
    go_wp2
    go_ret
    exact ⟨_, rfl, HR.out.mono fun b hb _ => hb, HK.out⟩
  · have hc0 : (n : Int) ≤ (c : Int) := by omega
    clear hsrc h hu hu1
    by_cases hcn : c = n
    · subst hcn
      go_enter Tryz.func154, Tryz.ntmps154
      go_wp2_with (at_builtin; refine wpList_append_rk E0 _ rfl _ _ 43 rfl (G := fun _ => True) rfl HH.out (fun _ _ => trivial) _ 1 us rfl HS.out (by omega) (by omega) ?_)
      intro v' w1 hr hk
      have HR := Lib.hid hr
      have HK := Lib.hid hk
      clear hr hk
      go_wp2
      go_ret
      exact ⟨_, rfl, HR.out.mono fun b hb _ => hb, HK.out⟩
    · go_enter Tryz.func154, Tryz.ntmps154
      go_wp2_with (at_builtin; refine wpList_append_rk E0 _ rfl _ _ 43 rfl (G := fun _ => True) rfl HH.out (fun _ _ => trivial) _ 1 us rfl HS.out (by omega) (by omega) ?_)
      intro v' w1 hr hk
      have HR := Lib.hid hr
      have HK := Lib.hid hk
      clear hr hk
      go_wp2
      go_ret
      exact ⟨_, rfl, HR.out.mono fun b hb _ => hb, HK.out⟩
theorem insE_any {G : Nat → Prop} {w : World} {v : Value} {n i vb : Nat} {xs us : List Value} (h : Rk 3 G w v n xs) (h1 : ∀ u ∈ xs, u.oneCell' = true) (hu : Bl w vb 32 us.toArray) (hul : us.length = 3) (hu1 : ∀ u ∈ us, u.oneCell' = true) (hvb : ¬ At v vb) (hi : i ≤ n) (hn : n ≤ 100000) :
    Calls Tryz.prog 154 #[v, .int .i64 i, .slice (some ⟨vb, 0, none⟩) 1 1] w fun e w' =>
      ∃ v', e = .returned v' ∧ Rk 3 (fun b => At v b ∨ w.heap.size ≤ b) w' v' (n + 1) (xs.take (i * 3) ++ (us ++ xs.drop (i * 3))) ∧ Keep (At v) w w' := by
  by_cases hin : i = n
  · subst hin
    have hx : xs.take (i * 3) ++ (us ++ xs.drop (i * 3)) = xs ++ us := by rw [List.take_of_length_le (by rw [h.1]; exact Nat.le_refl _), List.drop_of_length_le (by rw [h.1]; exact Nat.le_refl _), List.append_nil]
    rw [hx]
    exact insE_end (h.mono fun _ _ _ => trivial) hu hul hu1 hn
  · have hlen := ins_len (k := 3) hi h.1 hul
    rcases id h with ⟨hxl, ⟨rfl, rfl⟩ | ⟨g, c, rfl, _, hg, hlc, hm, hcs, hf⟩⟩
    · omega
    have hvg : vb ≠ g := fun e => hvb ⟨n, c, by rw [e]⟩
    have hdl : (xs.drop (i * 3)).length = (n - i) * 3 := by rw [List.length_drop, hxl]; omega
    by_cases hr : n + 1 ≤ c
    · refine (insE_room (by omega) hr hm hxl hcs hf h1 hu hul hu1 hvg hn).mono ?_
      rintro e w' ⟨rfl, rfl⟩
      have hs1 : ∀ j, j < c * 3 → ((w.drew.setCells g ((i + 1) * 3) (xs.drop (i * 3))).cell? ⟨g, j, none⟩).isSome = true := fun j hj => isSome_setCells g _ _ w.drew (fun t ht => (hf ((i + 1) * 3 + t) (by rw [hdl] at ht; omega)).1) j (hf j hj).1
      refine ⟨_, rfl, ⟨hlen, .inr ⟨g, c, rfl, .inl ⟨n, c, rfl⟩, ?_, hr, hm, ins_cells hi hxl hul (fun j hj => ?_) (fun t ht => ?_) (fun t ht => ?_), fun j hj => ⟨?_, ?_⟩⟩⟩, ?_⟩
      · rw [heap_size_setCells, heap_size_setCells]; exact hg
      · rw [World.cell?_setCells_out _ _ _ _ _ (fun _ _ => by show j < _ ∨ _; omega), World.cell?_setCells_out _ _ _ _ _ (fun _ _ => by show j < _ ∨ _; omega)]
        exact hcs j (by omega)
      · rw [show i * 3 + t = i * 3 + t by omega, World.cell?_setCells_in _ _ _ _ (fun j hj => hs1 _ (by omega)) t (by omega)]
        exact (List.getElem?_eq_getElem (by omega)).symm
      · rw [World.cell?_setCells_out _ _ _ _ _ (fun _ _ => by show (i + 1) * 3 + t < i * 3 ∨ i * 3 + us.length ≤ (i + 1) * 3 + t; omega), show (i + 1) * 3 + t = (i + 1) * 3 + t by omega, World.cell?_setCells_in g _ _ w.drew (fun j hj => (hf ((i + 1) * 3 + j) (by rw [hdl] at hj; omega)).1) t (by omega), ← List.getElem?_drop]
        exact (List.getElem?_eq_getElem (by omega)).symm
      · exact isSome_setCells g _ _ _ (fun t ht => hs1 _ (by omega)) j (hs1 j hj)
      · rw [World.frozen?_setCells, World.frozen?_setCells]; exact (hf j hj).2
      · exact ((Keep.refl _ _).drew.trans (keep_setCells _ g _ _ _ ⟨n, c, rfl⟩)).trans (keep_setCells _ g _ _ _ ⟨n, c, rfl⟩)
    · refine (insE_grow (by omega) hlc (by omega) hxl hcs h1 hu hul hu1 hn).mono ?_
      rintro e w' ⟨G', ROW, hG, hGm, hR, hRx, rfl, rfl⟩
      have hc0 : ∀ j, (w.drew.alloc (.cells ROW 32)).cell? ⟨w.heap.size, j, none⟩ = ROW[j]? := fun j => World.cell?_alloc_new w.drew ROW 32 j
      have hf0 : ∀ j, (w.drew.alloc (.cells ROW 32)).frozen? ⟨w.heap.size, j, none⟩ = false := fun j => World.frozen?_alloc_new w.drew ROW 32 j
      have hs0 : ∀ j, j < G' * 3 → ((w.drew.alloc (.cells ROW 32)).cell? ⟨w.heap.size, j, none⟩).isSome = true := fun j hj => by rw [hc0, Array.getElem?_eq_getElem (by omega)]; rfl
      have hs1 : ∀ j, j < G' * 3 → ((((w.drew.alloc (.cells ROW 32)).setCells w.heap.size (i * 3) us).drew).cell? ⟨w.heap.size, j, none⟩).isSome = true := fun j hj => isSome_setCells w.heap.size _ _ _ (fun t ht => hs0 _ (by omega)) j (hs0 j hj)
      refine ⟨_, rfl, ⟨hlen, .inr ⟨w.heap.size, G', rfl, .inr (Nat.le_refl _), ?_, hG, hGm, ins_cells hi hxl hul (fun j hj => ?_) (fun t ht => ?_) (fun t ht => ?_), fun j hj => ⟨?_, ?_⟩⟩⟩, ?_⟩
      · rw [heap_size_setCells]
        show w.heap.size < ((w.drew.alloc (.cells ROW 32)).setCells w.heap.size (i * 3) us).heap.size
        rw [heap_size_setCells]; simp
      · rw [World.cell?_setCells_out _ _ _ _ _ (fun _ _ => by show j < _ ∨ _; omega)]
        show ((w.drew.alloc (.cells ROW 32)).setCells w.heap.size (i * 3) us).cell? ⟨w.heap.size, j, none⟩ = _
        rw [World.cell?_setCells_out _ _ _ _ _ (fun _ _ => by show j < _ ∨ _; omega), hc0]
        exact hRx j (by omega)
      · rw [World.cell?_setCells_out _ _ _ _ _ (fun _ _ => by show i * 3 + t < (i + 1) * 3 ∨ _; omega)]
        show ((w.drew.alloc (.cells ROW 32)).setCells w.heap.size (i * 3) us).cell? ⟨w.heap.size, i * 3 + t, none⟩ = _
        rw [show i * 3 + t = i * 3 + t by omega, World.cell?_setCells_in _ _ _ _ (fun j hj => hs0 _ (by omega)) t (by omega)]
        exact (List.getElem?_eq_getElem (by omega)).symm
      · rw [show (i + 1) * 3 + t = (i + 1) * 3 + t by omega, World.cell?_setCells_in _ _ _ _ (fun j hj => hs1 _ (by rw [hdl] at hj; omega)) t (by omega), ← List.getElem?_drop]
        exact (List.getElem?_eq_getElem (by omega)).symm
      · exact isSome_setCells w.heap.size _ _ _ (fun t ht => hs1 _ (by rw [hdl] at ht; omega)) j (hs1 j hj)
      · rw [World.frozen?_setCells]
        show ((w.drew.alloc (.cells ROW 32)).setCells w.heap.size (i * 3) us).frozen? ⟨w.heap.size, j, none⟩ = false
        rw [World.frozen?_setCells]; exact hf0 j
      · have k0 : Keep (fun b => b = w.heap.size) w ((((w.drew.alloc (.cells ROW 32)).setCells w.heap.size (i * 3) us).drew).setCells w.heap.size ((i + 1) * 3) (xs.drop (i * 3))) :=
          ((((Keep.refl (fun b => b = w.heap.size) w).drew.alloc _).trans (keep_setCells (fun b => b = w.heap.size) w.heap.size _ _ _ rfl)).drew).trans (keep_setCells (fun b => b = w.heap.size) w.heap.size _ _ _ rfl)
        exact k0.into fun b hb e => absurd e (by omega)
set_option maxHeartbeats 4000000 in
set_option maxRecDepth 100000 in
theorem insC_end {w : World} {v : Value} {n vb : Nat} {xs us : List Value} (h : Rk 1 (fun _ => True) w v n xs) (hu : Bl w vb 43 us.toArray) (hul : us.length = 1) (hu1 : ∀ u ∈ us, u.oneCell' = true) (hn : n ≤ 100000) :
    Calls Tryz.prog 161 #[v, .int .i64 n, .slice (some ⟨vb, 0, none⟩) 1 1] w fun e w' =>
      ∃ v', e = .returned v' ∧ Rk 1 (fun b => At v b ∨ w.heap.size ≤ b) w' v' (n + 1) (xs ++ us) ∧ Keep (At v) w w' := by
  have hmx : Tryz.prog.follows .mixedOrders = true := by kernel_rfl
  obtain ⟨i0, z0, E0⟩ := elemC
  have hsrc : Src Tryz.prog 1 205 (.slice (some ⟨vb, 0, none⟩) 1 1) 1 us w := Src.ofSlice w Tryz.underlying205 ⟨vb, 0, none⟩ 1 1 us (by omega) (fun j u hj => by
    rw [add_lit0]
    have := hu.cell j
    simp only [List.getElem?_toArray] at this
    exact this.trans hj) hu1
  have HS := Lib.hid hsrc
  have HH := Lib.hid h
  rcases id h with ⟨_, ⟨rfl, rfl⟩ | ⟨g, c, rfl, _, _, hlc, _⟩⟩
  · clear hsrc h hu hu1
    go_enter Tryz.func161, Tryz.ntmps161
    go_wp2_with (at_builtin; refine wpList_append_rk E0 _ rfl _ _ 205 rfl (G := fun _ => True) rfl HH.out (fun _ _ => trivial) _ 1 us rfl HS.out (by omega) (by omega) ?_)
    intro v' w1 hr hk
    have HR := Lib.hid hr
    have HK := Lib.hid hk
    clear hr hk
    go_wp2
    go_ret
    exact ⟨_, rfl, HR.out.mono fun b hb _ => hb, HK.out⟩
  · have hc0 : (n : Int) ≤ (c : Int) := by omega
    clear hsrc h hu hu1
    by_cases hcn : c = n
    · subst hcn
      go_enter Tryz.func161, Tryz.ntmps161
      go_wp2_with (at_builtin; refine wpList_append_rk E0 _ rfl _ _ 205 rfl (G := fun _ => True) rfl HH.out (fun _ _ => trivial) _ 1 us rfl HS.out (by omega) (by omega) ?_)
      intro v' w1 hr hk
      have HR := Lib.hid hr
      have HK := Lib.hid hk
      clear hr hk
      go_wp2
      go_ret
      exact ⟨_, rfl, HR.out.mono fun b hb _ => hb, HK.out⟩
    · go_enter Tryz.func161, Tryz.ntmps161
      go_wp2_with (at_builtin; refine wpList_append_rk E0 _ rfl _ _ 205 rfl (G := fun _ => True) rfl HH.out (fun _ _ => trivial) _ 1 us rfl HS.out (by omega) (by omega) ?_)
      intro v' w1 hr hk
      have HR := Lib.hid hr
      have HK := Lib.hid hk
      clear hr hk
      go_wp2
      go_ret
      exact ⟨_, rfl, HR.out.mono fun b hb _ => hb, HK.out⟩
theorem insC_any {G : Nat → Prop} {w : World} {v : Value} {n i vb : Nat} {xs us : List Value} (h : Rk 1 G w v n xs) (h1 : ∀ u ∈ xs, u.oneCell' = true) (hu : Bl w vb 43 us.toArray) (hul : us.length = 1) (hu1 : ∀ u ∈ us, u.oneCell' = true) (hvb : ¬ At v vb) (hi : i ≤ n) (hn : n ≤ 100000) :
    Calls Tryz.prog 161 #[v, .int .i64 i, .slice (some ⟨vb, 0, none⟩) 1 1] w fun e w' =>
      ∃ v', e = .returned v' ∧ Rk 1 (fun b => At v b ∨ w.heap.size ≤ b) w' v' (n + 1) (xs.take (i * 1) ++ (us ++ xs.drop (i * 1))) ∧ Keep (At v) w w' := by
  by_cases hin : i = n
  · subst hin
    have hx : xs.take (i * 1) ++ (us ++ xs.drop (i * 1)) = xs ++ us := by rw [List.take_of_length_le (by rw [h.1]; exact Nat.le_refl _), List.drop_of_length_le (by rw [h.1]; exact Nat.le_refl _), List.append_nil]
    rw [hx]
    exact insC_end (h.mono fun _ _ _ => trivial) hu hul hu1 hn
  · have hlen := ins_len (k := 1) hi h.1 hul
    rcases id h with ⟨hxl, ⟨rfl, rfl⟩ | ⟨g, c, rfl, _, hg, hlc, hm, hcs, hf⟩⟩
    · omega
    have hvg : vb ≠ g := fun e => hvb ⟨n, c, by rw [e]⟩
    have hdl : (xs.drop (i * 1)).length = (n - i) * 1 := by rw [List.length_drop, hxl]; omega
    by_cases hr : n + 1 ≤ c
    · refine (insC_room (by omega) hr hm hxl hcs hf h1 hu hul hu1 hvg hn).mono ?_
      rintro e w' ⟨rfl, rfl⟩
      have hs1 : ∀ j, j < c * 1 → ((w.drew.setCells g (i + 1) (xs.drop (i * 1))).cell? ⟨g, j, none⟩).isSome = true := fun j hj => isSome_setCells g _ _ w.drew (fun t ht => (hf (i + 1 + t) (by rw [hdl] at ht; omega)).1) j (hf j hj).1
      refine ⟨_, rfl, ⟨hlen, .inr ⟨g, c, rfl, .inl ⟨n, c, rfl⟩, ?_, hr, hm, ins_cells hi hxl hul (fun j hj => ?_) (fun t ht => ?_) (fun t ht => ?_), fun j hj => ⟨?_, ?_⟩⟩⟩, ?_⟩
      · rw [heap_size_setCells, heap_size_setCells]; exact hg
      · rw [World.cell?_setCells_out _ _ _ _ _ (fun _ _ => by show j < _ ∨ _; omega), World.cell?_setCells_out _ _ _ _ _ (fun _ _ => by show j < _ ∨ _; omega)]
        exact hcs j (by omega)
      · rw [show i * 1 + t = i + t by omega, World.cell?_setCells_in _ _ _ _ (fun j hj => hs1 _ (by omega)) t (by omega)]
        exact (List.getElem?_eq_getElem (by omega)).symm
      · rw [World.cell?_setCells_out _ _ _ _ _ (fun _ _ => by show (i + 1) * 1 + t < i ∨ i + us.length ≤ (i + 1) * 1 + t; omega), show (i + 1) * 1 + t = i + 1 + t by omega, World.cell?_setCells_in g _ _ w.drew (fun j hj => (hf (i + 1 + j) (by rw [hdl] at hj; omega)).1) t (by omega), ← List.getElem?_drop]
        exact (List.getElem?_eq_getElem (by omega)).symm
      · exact isSome_setCells g _ _ _ (fun t ht => hs1 _ (by omega)) j (hs1 j hj)
      · rw [World.frozen?_setCells, World.frozen?_setCells]; exact (hf j hj).2
      · exact ((Keep.refl _ _).drew.trans (keep_setCells _ g _ _ _ ⟨n, c, rfl⟩)).trans (keep_setCells _ g _ _ _ ⟨n, c, rfl⟩)
    · refine (insC_grow (by omega) hlc (by omega) hxl hcs h1 hu hul hu1 hn).mono ?_
      rintro e w' ⟨G', ROW, hG, hGm, hR, hRx, rfl, rfl⟩
      have hc0 : ∀ j, (w.drew.alloc (.cells ROW 43)).cell? ⟨w.heap.size, j, none⟩ = ROW[j]? := fun j => World.cell?_alloc_new w.drew ROW 43 j
      have hf0 : ∀ j, (w.drew.alloc (.cells ROW 43)).frozen? ⟨w.heap.size, j, none⟩ = false := fun j => World.frozen?_alloc_new w.drew ROW 43 j
      have hs0 : ∀ j, j < G' * 1 → ((w.drew.alloc (.cells ROW 43)).cell? ⟨w.heap.size, j, none⟩).isSome = true := fun j hj => by rw [hc0, Array.getElem?_eq_getElem (by omega)]; rfl
      have hs1 : ∀ j, j < G' * 1 → ((((w.drew.alloc (.cells ROW 43)).setCells w.heap.size (i) us).drew).cell? ⟨w.heap.size, j, none⟩).isSome = true := fun j hj => isSome_setCells w.heap.size _ _ _ (fun t ht => hs0 _ (by omega)) j (hs0 j hj)
      refine ⟨_, rfl, ⟨hlen, .inr ⟨w.heap.size, G', rfl, .inr (Nat.le_refl _), ?_, hG, hGm, ins_cells hi hxl hul (fun j hj => ?_) (fun t ht => ?_) (fun t ht => ?_), fun j hj => ⟨?_, ?_⟩⟩⟩, ?_⟩
      · rw [heap_size_setCells]
        show w.heap.size < ((w.drew.alloc (.cells ROW 43)).setCells w.heap.size (i) us).heap.size
        rw [heap_size_setCells]; simp
      · rw [World.cell?_setCells_out _ _ _ _ _ (fun _ _ => by show j < _ ∨ _; omega)]
        show ((w.drew.alloc (.cells ROW 43)).setCells w.heap.size (i) us).cell? ⟨w.heap.size, j, none⟩ = _
        rw [World.cell?_setCells_out _ _ _ _ _ (fun _ _ => by show j < _ ∨ _; omega), hc0]
        exact hRx j (by omega)
      · rw [World.cell?_setCells_out _ _ _ _ _ (fun _ _ => by show i * 1 + t < i + 1 ∨ _; omega)]
        show ((w.drew.alloc (.cells ROW 43)).setCells w.heap.size (i) us).cell? ⟨w.heap.size, i * 1 + t, none⟩ = _
        rw [show i * 1 + t = i + t by omega, World.cell?_setCells_in _ _ _ _ (fun j hj => hs0 _ (by omega)) t (by omega)]
        exact (List.getElem?_eq_getElem (by omega)).symm
      · rw [show (i + 1) * 1 + t = i + 1 + t by omega, World.cell?_setCells_in _ _ _ _ (fun j hj => hs1 _ (by rw [hdl] at hj; omega)) t (by omega), ← List.getElem?_drop]
        exact (List.getElem?_eq_getElem (by omega)).symm
      · exact isSome_setCells w.heap.size _ _ _ (fun t ht => hs1 _ (by rw [hdl] at ht; omega)) j (hs1 j hj)
      · rw [World.frozen?_setCells]
        show ((w.drew.alloc (.cells ROW 43)).setCells w.heap.size (i) us).frozen? ⟨w.heap.size, j, none⟩ = false
        rw [World.frozen?_setCells]; exact hf0 j
      · have k0 : Keep (fun b => b = w.heap.size) w ((((w.drew.alloc (.cells ROW 43)).setCells w.heap.size (i) us).drew).setCells w.heap.size (i + 1) (xs.drop (i * 1))) :=
          ((((Keep.refl (fun b => b = w.heap.size) w).drew.alloc _).trans (keep_setCells (fun b => b = w.heap.size) w.heap.size _ _ _ rfl)).drew).trans (keep_setCells (fun b => b = w.heap.size) w.heap.size _ _ _ rfl)
        exact k0.into fun b hb e => absurd e (by omega)
end Go.Proofs.YtoobjjpheegmdaaGreat.E4
