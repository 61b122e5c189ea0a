/-
  tree.clone: THE SAME FILTER, WHOSE LISTS ARE NEW MEMORY, down to the last.
-/
import Derived.Test.YtgmahdeaggjjgaaClone6
import Derived.Test.YtgmahdeaggjjgaaFlow6
import Derived.Test.YtgmahdeaggjjgaaEach6
import Derived.Test.YtgmahdeaggjjgaaCells4
namespace Go.Proofs.Ytgmahdeaggjjgaa
open Go.RowKit Go

attribute [local go_sem] Oper.semAt_some wide_fn wide_depth

theorem FBox.set3 {W : World} {B : Nat} {kv : Value} {f : Ft} (h : FBox W B kv f) (u : Value) : FBox (W.setCell ⟨B, 3, none⟩ u) B u f := by
  obtain ⟨hlt, hk⟩ := Array.getElem?_eq_some_iff.1 h
  show (W.heap.modify B _)[B]? = _
  rw [Array.getElem?_eq_getElem (by rw [Array.size_modify]; exact hlt), Array.getElem_modify_self, hk]
  rfl

theorem FBox.bx {W : World} {B : Nat} {kv : Value} {f : Ft} (h : FBox W B kv f) : Bx W B (.int .i64 f.op) (.string f.name) (.string f.text) kv :=
  ⟨h.c0, h.c1, h.c2, h.c3, by simp [World.frozen?, show W.heap[B]? = _ from h], by simp [World.frozen?, show W.heap[B]? = _ from h], by simp [World.frozen?, show W.heap[B]? = _ from h], by simp [World.frozen?, show W.heap[B]? = _ from h]⟩

/-- Pairs that lie in block B, of which no cell is frozen. -/
structure RowK (B : Nat) (w : World) (R : List (Value × Ft)) : Prop where
  lt : B < w.heap.size
  cell : ∀ j, j < (flatK R).length → w.cell? ⟨B, j, none⟩ = (flatK R)[j]?
  free : ∀ j, j < (flatK R).length → w.frozen? ⟨B, j, none⟩ = false

theorem RowK.keep {B : Nat} {w w' : World} {R : List (Value × Ft)} (h : RowK B w R) (hs : w.heap.size ≤ w'.heap.size) (e : w'.heap[B]? = w.heap[B]?) : RowK B w' R :=
  ⟨Nat.lt_of_lt_of_le h.lt hs, fun j hj => (World.cell?_of_block (a := ⟨B, j, none⟩) e).trans (h.cell j hj), fun j hj => (World.frozen?_of_block (a := ⟨B, j, none⟩) e).trans (h.free j hj)⟩

theorem flatK_get : ∀ (R : List (Value × Ft)) (i : Nat) (h : i < R.length) (c : Nat), c < 4 → (flatK R)[i * 4 + c]? = [Value.int .i64 R[i].2.op, .string R[i].2.name, .string R[i].2.text, R[i].1][c]?
  | [], i, h, _, _ => by simp at h
  | p :: r, 0, _, c, hc => by
    simp only [flatK, Nat.zero_mul, Nat.zero_add, List.getElem_cons_zero]
    rw [List.getElem?_append_left (by simp; omega)]
  | p :: r, i + 1, h, c, hc => by
    simp only [flatK, List.getElem_cons_succ]
    rw [List.getElem?_append_right (by simp; omega), ← flatK_get r i (by simpa using h) c hc]
    congr 1
    simp
    omega

theorem flatK_set_same (R : List (Value × Ft)) (i : Nat) (h : i < R.length) (p : Value × Ft) (c : Nat) (hc : c < 4) : (flatK (R.set i p))[i * 4 + c]? = [Value.int .i64 p.2.op, .string p.2.name, .string p.2.text, p.1][c]? := by
  rw [flatK_get (R.set i p) i (by simpa using h) c hc, List.getElem_set_self]
theorem flatK_set_other (R : List (Value × Ft)) (i : Nat) (p : Value × Ft) (j : Nat) (hj : j < R.length) (hne : j ≠ i) (c : Nat) (hc : c < 4) : (flatK (R.set i p))[j * 4 + c]? = (flatK R)[j * 4 + c]? := by
  rw [flatK_get (R.set i p) j (by simpa using hj) c hc, flatK_get R j hj c hc, List.getElem_set_ne (Ne.symm hne)]

/-- A kid that is stored at place i. -/
def storeK (w : World) (B i : Nat) (kv : Value) (x : Ft) : World := (((w.setCell ⟨B, i * 4, none⟩ (.int .i64 x.op)).setCell ⟨B, i * 4 + 1, none⟩ (.string x.name)).setCell ⟨B, i * 4 + 2, none⟩ (.string x.text)).setCell ⟨B, i * 4 + 3, none⟩ kv

theorem storeK_size (w : World) (B i : Nat) (kv : Value) (x : Ft) : (storeK w B i kv x).heap.size = w.heap.size := by simp [storeK, World.setCell]
theorem storeK_keep (w : World) (B i : Nat) (kv : Value) (x : Ft) : Keep (fun k => k = B) w (storeK w B i kv x) :=
  ((((Keep.refl (fun k => k = B) w).setCell (p := ⟨B, i * 4, none⟩) (.inr rfl) _).setCell (p := ⟨B, i * 4 + 1, none⟩) (.inr rfl) _).setCell (p := ⟨B, i * 4 + 2, none⟩) (.inr rfl) _).setCell (p := ⟨B, i * 4 + 3, none⟩) (.inr rfl) _

theorem RowK.store {B : Nat} {w : World} {R : List (Value × Ft)} (h : RowK B w R) {i : Nat} (hi : i < R.length) (kv : Value) (x : Ft) : RowK B (storeK w B i kv x) (R.set i (kv, x)) := by
  have hl : (flatK (R.set i (kv, x))).length = (flatK R).length := by rw [flatK_length, flatK_length, List.length_set]
  have hfl := flatK_length R
  have c0 := h.cell (i * 4) (by omega)
  have c1 := h.cell (i * 4 + 1) (by omega)
  have c2 := h.cell (i * 4 + 2) (by omega)
  have c3 := h.cell (i * 4 + 3) (by omega)
  have g := fun c hc => flatK_get R i hi c hc
  have g0 := c0.trans (g 0 (by omega))
  have g1 := c1.trans (g 1 (by omega))
  have g2 := c2.trans (g 2 (by omega))
  have g3 := c3.trans (g 3 (by omega))
  simp only [List.getElem?_cons_zero, List.getElem?_cons_succ] at g0 g1 g2 g3
  refine ⟨by rw [storeK_size]; exact h.lt, fun j hj => ?_, fun j hj => ?_⟩
  · rw [hl] at hj
    have e : j = j / 4 * 4 + j % 4 := by omega
    have hm : j % 4 < 4 := Nat.mod_lt _ (by decide)
    have hjl : j / 4 < R.length := by omega
    by_cases hji : j / 4 = i
    · rw [e, hji, flatK_set_same R i hi _ _ hm]
      generalize j % 4 = c at hm ⊢
      unfold storeK
      rcases (show c = 0 ∨ c = 1 ∨ c = 2 ∨ c = 3 by omega) with rfl | rfl | rfl | rfl
      · go_simp
      · go_simp
      · go_simp
      · go_simp
    · have h0 : ¬ j = i * 4 := by omega
      have h1 : ¬ j = i * 4 + 1 := by omega
      have h2 : ¬ j = i * 4 + 2 := by omega
      have h3 : ¬ j = i * 4 + 3 := by omega
      have hcj := h.cell j hj
      rw [show (flatK (R.set i (kv, x)))[j]? = (flatK R)[j]? by rw [e]; exact flatK_set_other R i _ _ hjl hji _ hm, ← hcj]
      unfold storeK
      have d : ∀ c, ¬ j = c → (⟨B, c, none⟩ : Addr) ≠ ⟨B, j, none⟩ := fun c h e => h (congrArg Addr.off e).symm
      rw [World.cell?_setCell_other (h := d _ h3), World.cell?_setCell_other (h := d _ h2), World.cell?_setCell_other (h := d _ h1), World.cell?_setCell_other (h := d _ h0)]
  · rw [hl] at hj
    have hfj := h.free j hj
    unfold storeK
    rw [World.frozen?_setCell, World.frozen?_setCell, World.frozen?_setCell, World.frozen?_setCell]
    exact hfj

/-- What a clone is. -/
def CloneQ (f : Ft) (w : World) (e : Ending) (w' : World) : Prop := ∃ kv, e = .returned (f.val kv) ∧ KsB (fun b => w.heap.size ≤ b) w' kv f ∧ Lay w w'

/-- What the operations of 'f.Kids[i] = clone(kid)' leave. -/
def CV (b0 B n c i : Nat) (x : Value) : Nat → (Nat → Value) → World → Prop
  | 0, ys, _ => ys 0 = .pointer (some ⟨b0, 3, none⟩)
  | 1, ys, _ => ys 1 = .slice (some ⟨B, 0, none⟩) n c
  | 2, ys, _ => ys 2 = .int .i64 i
  | 3, ys, _ => ys 3 = x
  | 5, ys, _ => ys 5 = .pointer (some ⟨B, i * 4, none⟩)
  | _, _, _ => True

set_option maxHeartbeats 8000000 in
set_option maxRecDepth 100000 in
theorem clone_any : ∀ (m : Nat) (f : Ft) (w : World) (v : Value), f.count ≤ m → m ≤ 100000 → FAt w v f → Calls Try.prog 32 #[v] w (CloneQ f w) := by
  intro m
  induction m with
  | zero =>
    intro f w v h
    cases f with
    | mk o n t k => rw [Ft.count] at h; omega
  | succ m ih =>
    rintro f w v hm hm2 ⟨kv, rfl, hks⟩
    obtain ⟨a, ca, rfl, hl63, ha⟩ := KidsAt.of hks
    clear hks
    obtain ⟨o, nm, t, ks⟩ := f
    rw [Ft.count] at hm
    simp only [Ft.val, Ft.op, Ft.name, Ft.text, Ft.kids] at *
    have hlen : ks.length ≤ 100000 := by
      have : ∀ l : List Ft, l.length ≤ Ft.counts l := by
        intro l
        induction l with
        | nil => simp [Ft.counts]
        | cons x r ih => cases x with | mk _ _ _ _ => rw [Ft.counts, Ft.count, List.length_cons]; omega
      have := this ks
      omega
    obtain ⟨W, hW⟩ : ∃ W, W = (w.alloc (.cells #[.int .i64 o, .string nm, .string t, .slice a ks.length ca] 26)).alloc (.cells #[.int .i64 0, .string ⟨#[]⟩, .string ⟨#[]⟩, .slice none 0 0] 26) := ⟨_, rfl⟩
    have hal : Lay w W := by rw [hW]; exact ((Keep.refl _ _).alloc _).alloc _
    have hsz : W.heap.size = w.heap.size + 2 := by rw [hW]; simp
    have hb0 : FBox W w.heap.size (.slice a ks.length ca) (.mk o nm t ks) := by
      rw [hW]; exact (Below.heap_alloc _ _ _ (by simp)).trans (FBox.new w (.slice a ks.length ca) (.mk o nm t ks))
    have hb1 : FBox W (w.heap.size + 1) (.slice none 0 0) (.mk 0 ⟨#[]⟩ ⟨#[]⟩ []) := by
      rw [hW]
      have := FBox.new (w.alloc (.cells #[.int .i64 o, .string nm, .string t, .slice a ks.length ca] 26)) (.slice none 0 0) (.mk 0 ⟨#[]⟩ ⟨#[]⟩ [])
      rwa [World.size_alloc] at this
    have HC := Lib.hid (sliceClone_any ks a ca w W hal hlen ha)
    have HW := Lib.hid hW
    have HAL := Lib.hid hal
    have HSZ := Lib.hid hsz
    have HB0 := Lib.hid hb0
    have HB1 := Lib.hid hb1
    have IH := Lib.hid ih
    clear ha hW hal hsz hb0 hb1 ih hl63
    refine (callsIn_wide (n := 9)).1 ?_
    refine callsIn_of_wp Try.func32 rfl trivial ?_
    simp only [Try.ntmps32, List.size_toArray, List.length_cons, List.length_nil, Nat.reduceAdd, Nat.reduceSub, Array.replicate_succ, Array.replicate_zero, List.push_toArray, List.append_toArray, List.nil_append, List.cons_append]
    gi_wp2_with (gi_at_call 37; rw [← HW.out]; refine (callsIn_wide.2 HC.out).mono ?_; rintro e w1 ⟨a1, c1, R, rfl, hR, hkR, hl1, hrow⟩; have hb3 := HB0.out.keep hl1 (fun h => h); obtain ⟨x0, x1, x2, x3, z0, z1, z2, z3⟩ := hb3.bx)
    subst hR
    have hcm := fun i (h : i < (R.map (·.2)).length) => counts_mem (R.map (·.2)) i h
    obtain ⟨W2, hW2⟩ : ∃ W2, W2 = w1.setCell ⟨w.heap.size, 3, none⟩ (.slice a1 R.length c1) := ⟨_, rfl⟩
    have hk12 : Keep (fun k => k = w.heap.size) w1 W2 := by rw [hW2]; exact (Keep.refl (fun k => k = w.heap.size) w1).setCell (p := ⟨w.heap.size, 3, none⟩) (.inr rfl) _
    have hf2 : FBox W2 w.heap.size (.slice a1 R.length c1) (.mk o nm t (R.map (·.2))) := by rw [hW2]; exact hb3.set3 _
    have hz2 : FBox W2 (w.heap.size + 1) (.slice none 0 0) (.mk 0 ⟨#[]⟩ ⟨#[]⟩ []) := (HB1.out.keep hl1 (fun h => h)).keep hk12 (by omega)
    have hl2 : Lay w W2 := Keep.after (H := fun _ => False) (fun k hk => .inr (by omega)) (HAL.out.trans hl1) hk12
    have hrow2 : R = [] ∨ ∃ B, a1 = some ⟨B, 0, none⟩ ∧ w.heap.size + 2 ≤ B ∧ RowK B W2 R := by
      rcases hrow with h0 | ⟨_, ⟨_, h0⟩ | ⟨B, cap, hv, hB, hlt, hcap, _, hc, hf⟩⟩
      · exact .inl (List.map_eq_nil_iff.1 h0)
      · exact .inl (List.eq_nil_of_length_eq_zero h0)
      · have hB2 : w.heap.size + 2 ≤ B := by rw [← HSZ.out]; exact hB
        have ha1 : a1 = some ⟨B, 0, none⟩ := by injection hv
        refine .inr ⟨B, ha1, hB2, RowK.keep (w := w1) ⟨hlt, hc, fun j hj => (hf j ?_).2⟩ hk12.size (hk12.block B hlt (by omega))⟩
        rw [flatK_length] at hj
        exact Nat.lt_of_lt_of_le hj (Nat.mul_le_mul_right 4 hcap)
    rw [List.length_map] at hlen
    rw [← hW2]
    have HKR := Lib.hid hkR
    have HROW := Lib.hid hrow2
    have HCM := Lib.hid hcm
    have HF2 := Lib.hid hf2
    have HZ2 := Lib.hid hz2
    have HL2 := Lib.hid hl2
    clear x0 x1 x2 x3 z0 z1 z2 z3 hb3 hrow hkR hl1 hrow2 hcm hf2 hz2 hl2 hk12 hW2 HC HW HAL HSZ HB0 HB1
    gi_loopw [12] (fun vi wr => ∃ (i : Nat) (R' : List (Value × Ft)), vi = .int .i64 i ∧ i ≤ R.length ∧ R'.map (·.2) = R.map (·.2) ∧ Lay w wr ∧ FBox wr w.heap.size (.slice a1 R.length c1) (.mk o nm t (R.map (·.2))) ∧ FBox wr (w.heap.size + 1) (.slice none 0 0) (.mk 0 ⟨#[]⟩ ⟨#[]⟩ []) ∧
      (R = [] ∨ ∃ B, a1 = some ⟨B, 0, none⟩ ∧ w.heap.size + 2 ≤ B ∧ RowK B wr R' ∧ (∀ j (h : j < R'.length), j < i → KsB (fun b => w.heap.size + 2 ≤ b ∧ b ≠ B) wr R'[j].1 R'[j].2) ∧ (∀ j (h : j < R'.length), i ≤ j → KsAt w R'[j].1 R'[j].2))) (fun vi _ => R.length - (intOf vi).toNat)
    case atStart =>
      refine ⟨0, R, rfl, Nat.zero_le _, rfl, HL2.out, HF2.out, HZ2.out, HROW.out.imp id fun ⟨B, h1, h2, h3⟩ => ⟨B, h1, h2, h3, fun j _ h => by omega, fun j h _ => HKR.out _ (List.getElem_mem h)⟩⟩
    case round =>
      obtain ⟨i, R', rfl, hi, hR', hl, hf, hz, hrow⟩ := hrel
      have hlR : R'.length = R.length := by have := congrArg List.length hR'; simpa using this
      by_cases hlt : i < R.length
      · obtain ⟨B, rfl, hB, hrk, hdone, hrest⟩ := hrow.resolve_left (by intro h; rw [h] at hlt; simp at hlt)
        have hi' : i < R'.length := by omega
        have hc := fun c hc => (hrk.cell (i * 4 + c) (by rw [flatK_length]; omega)).trans (flatK_get R' i hi' c hc)
        have x0 := hc 0 (by omega)
        have x1 := hc 1 (by omega)
        have x2 := hc 2 (by omega)
        have x3 := hc 3 (by omega)
        simp only [List.getElem?_cons_zero, List.getElem?_cons_succ, Nat.add_zero] at x0 x1 x2 x3
        have hki := hrest i hi' (Nat.le_refl _)
        have hci : (R'[i].2).count ≤ Ft.counts (R.map (·.2)) := by
          have h2 := counts_mem (R'.map (·.2)) i (by simpa using hi')
          rw [List.getElem_map] at h2
          rw [← hR']; exact h2
        have HST : Hid (∀ (W' : World) (kv' : Value) (x : Ft), R'[i].2 = x → RowK B W' R' → RowK B (storeK W' B i kv' x) (R'.set i (kv', x)) ∧ (R'.set i (kv', x)).map (·.2) = R.map (·.2)) := Lib.hid fun W' kv' x hx h => ⟨h.store hi' kv' x, by
          rw [List.map_set, ← hR']
          simp only
          rw [← hx]
          have : (R'.map (·.2))[i]'(by simpa using hi') = R'[i].2 := by simp
          rw [← this, List.set_getElem_self]⟩
        generalize hp : R'[i] = p at x0 x1 x2 x3 hki hci HST
        obtain ⟨kv, x⟩ := p
        simp only at x0 x1 x2 x3 hki hci
        obtain ⟨ak, ck, rfl⟩ := hki.shape
        obtain ⟨W3, hW3⟩ : ∃ W3, W3 = wr.alloc (.cells #[.int .i64 x.op, .string x.name, .string x.text, .slice ak x.kids.length ck] 26) := ⟨_, rfl⟩
        have hl3 : Lay wr W3 := by rw [hW3]; exact (Keep.refl _ _).alloc _
        have hf3 : FBox W3 wr.heap.size (.slice ak x.kids.length ck) x := by rw [hW3]; exact FBox.new _ _ _
        have hs3 : W3.heap.size = wr.heap.size + 1 := by rw [hW3]; simp
        have hld : Lay wr W3.drew := hl3.drew
        have hcl := IH.out x W3.drew (x.val (.slice ak x.kids.length ck)) (by omega) (by omega) ⟨_, rfl, KsAt.below (Lay.below (hl.trans hld)) _ x hki⟩
        simp only [Ft.val] at hcl
        have HCL := Lib.hid hcl
        have HW3 := Lib.hid hW3
        have hBlt := hrk.lt
        have hilt : (i : Int) < (R.length : Int) := by omega
        have HRK := Lib.hid hrk
        have HDONE := Lib.hid hdone
        have HREST := Lib.hid hrest
        have HL := Lib.hid hl
        have HF := Lib.hid hf
        have HZ := Lib.hid hz
        have HF3 := Lib.hid hf3
        have HP := Lib.hid hp
        have HRR := Lib.hid hR'
        clear hrk hdone hrest hl hf hz hf3 hp hR' hrow hc hki hcl hW3
        gi_wp2_with fail
        rw [← HW3.out]
        refine wpIn_region_flow (fun _ => trivial) (by kernel_rfl) (waist2I 4 6 W3.drew (fun v w' => ∃ kv', v = x.val kv' ∧ KsB (fun b => W3.heap.size ≤ b) w' kv' x ∧ Lay W3.drew w') (fun _ w' => ∃ w3 kv', KsB (fun b => W3.heap.size ≤ b) w3 kv' x ∧ Lay W3.drew w3 ∧ w' = storeK w3 B i kv' x)) (fun _ _ _ _ => True)
          (CV w.heap.size B R.length c1 i (.agg #[.int .i64 x.op, .string x.name, .string x.text, .slice ak x.kids.length ck])) (fun _ => false) (by kernel_rfl) (by kernel_rfl) ?hst ⟨fun _ => rfl, fun h => (by cases h), fun h => (by cases h)⟩ ?step ?fin
        case hst =>
          intro i' j ys v w1' w2' hij hanc _ hV _
          match j, hV with
          | 0, hV => exact (upd_other ys v (Ne.symm hij)).trans hV
          | 1, hV => exact (upd_other ys v (Ne.symm hij)).trans hV
          | 2, hV => exact (upd_other ys v (Ne.symm hij)).trans hV
          | 3, hV => exact (upd_other ys v (Ne.symm hij)).trans hV
          | 4, hV => trivial
          | 5, hV => exact (upd_other ys v (Ne.symm hij)).trans hV
          | _ + 6, hV => trivial
        case step =>
          have hlay : ∀ (listed : Array Bool) (ys : Nat → Value) (w' : World), waist2I 4 6 W3.drew (fun v w' => ∃ kv', v = x.val kv' ∧ KsB (fun b => W3.heap.size ≤ b) w' kv' x ∧ Lay W3.drew w') (fun _ w' => ∃ w3 kv', KsB (fun b => W3.heap.size ≤ b) w3 kv' x ∧ Lay W3.drew w3 ∧ w' = storeK w3 B i kv' x) listed ys w' → listed.getD 6 false = false → Lay W3.drew w' := by
            intro listed ys w' hI h6
            cases h4 : listed.getD 4 false with
            | false => rw [hI.1 h4]; exact Keep.refl _ _
            | true => obtain ⟨_, _, _, h⟩ := hI.2.1 h4 h6; exact h
          have HLAY := Lib.hid hlay
          clear hlay
          refine ⟨?_, ?_, ?_, ?_, ?_, ?_, ?_, trivial⟩
          · intro listed ys A w' hsz hsd hi2 hall hA hI hd K hK
            have e1 : A.tmps.getD 1 undef = .pointer (some ⟨w.heap.size, 0, none⟩) := hA 1 (Nat.le_of_ble_eq_true rfl)
            have hl' := HLAY.out listed ys w' hI (not_yet hsd hi2 (by kernel_rfl))
            obtain ⟨x0, x1, x2, x3, z0, z1, z2, z3⟩ := ((HF.out.keep hld (fun h => h)).keep hl' (fun h => h)).bx
            refine step_run (.inl rfl) ?_
            clear hA hd hl'
            go_simp
            exact hK _ _ (hI.other (by decide) (by decide) _) trivial (upd_same _ _ _)
          · intro listed ys A w' hsz hsd hi2 hall hA hI hd K hK
            have e17 : A.tmps.getD 17 undef = .pointer (some ⟨w.heap.size, 3, none⟩) := (hA 17 (Nat.le_of_ble_eq_true rfl)).trans (hd ⟨0, .data⟩ (by simp) rfl)
            have hl' := HLAY.out listed ys w' hI (not_yet hsd hi2 (by kernel_rfl))
            obtain ⟨x0, x1, x2, x3, z0, z1, z2, z3⟩ := ((HF.out.keep hld (fun h => h)).keep hl' (fun h => h)).bx
            refine step_run (.inl rfl) ?_
            clear hA hd hl'
            go_simp
            exact hK _ _ (hI.other (by decide) (by decide) _) trivial (upd_same _ _ _)
          · intro listed ys A w' hsz hsd hi2 hall hA hI hd K hK
            have e3 : A.tmps.getD 3 undef = .int .i64 i := hA 3 (Nat.le_of_ble_eq_true rfl)
            refine step_run (.inl rfl) ?_
            clear hA hd
            go_simp
            exact hK _ _ (hI.other (by decide) (by decide) _) trivial (upd_same _ _ _)
          · intro listed ys A w' hsz hsd hi2 hall hA hI hd K hK
            have e4 : A.tmps.getD 4 undef = .pointer (some ⟨wr.heap.size, 0, none⟩) := hA 4 (Nat.le_of_ble_eq_true rfl)
            have hl' := HLAY.out listed ys w' hI (not_yet hsd hi2 (by kernel_rfl))
            obtain ⟨x0, x1, x2, x3, z0, z1, z2, z3⟩ := ((HF3.out.keep (Keep.drew (Keep.refl (fun _ => False) W3)) (fun h => h)).keep hl' (fun h => h)).bx
            refine step_run (.inl rfl) ?_
            clear hA hd hl'
            go_simp
            exact hK _ _ (hI.other (by decide) (by decide) _) trivial (upd_same _ _ _)
          · intro listed ys A w' hsz hsd hi2 hall hA hI hd K hK
            have e20 : A.tmps.getD 20 undef = .agg #[.int .i64 x.op, .string x.name, .string x.text, .slice ak x.kids.length ck] := (hA 20 (Nat.le_of_ble_eq_true rfl)).trans (hd ⟨3, .data⟩ (by simp) rfl)
            have h6 := not_yet (c := 6) hsd hi2 (by kernel_rfl)
            obtain rfl := hI.1 hi2
            refine step_run (.inl rfl) ?_
            clear hA hd
            go_simp
            refine (callsIn_wide.2 HCL.out).mono ?_
            rintro e W4 ⟨kv', rfl, hkb, hl4⟩
            exact hK _ _ (waist2I.call (by rw [hsz]; decide) (by decide) h6 ⟨kv', rfl, hkb, hl4⟩) trivial trivial
          · intro listed ys A w' hsz hsd hi2 hall hA hI hd K hK
            have e18 : A.tmps.getD 18 undef = .slice (some ⟨B, 0, none⟩) R.length c1 := (hA 18 (Nat.le_of_ble_eq_true rfl)).trans (hd ⟨1, .data⟩ (by simp) rfl)
            have e19 : A.tmps.getD 19 undef = .int .i64 i := (hA 19 (Nat.le_of_ble_eq_true rfl)).trans (hd ⟨2, .data⟩ (by simp) rfl)
            have hl' := HLAY.out listed ys w' hI (not_yet hsd hi2 (by kernel_rfl))
            have hrk' := (HRK.out.keep hld.size (hld.block HRK.out.lt)).keep hl'.size (hl'.block (Nat.lt_of_lt_of_le HRK.out.lt hld.size))
            have hlt' := hrk'.lt
            refine step_run (.inl rfl) ?_
            clear hA hd hl' hrk'
            go_simp
            exact hK _ _ (hI.other (by decide) (by decide) _) trivial (upd_same _ _ _)
          · intro listed ys A w' hsz hsd hi2 hall hA hI hd K hK
            have e22 : A.tmps.getD 22 undef = .pointer (some ⟨B, i * 4, none⟩) := (hA 22 (Nat.le_of_ble_eq_true rfl)).trans (hd ⟨5, .data⟩ (by simp) rfl)
            have h4 : listed.getD 4 false = true := hall ⟨4, .data⟩ (by simp) rfl
            obtain ⟨kv', hv, hkb, hl4⟩ := hI.2.1 h4 hi2
            have e21 : A.tmps.getD 21 undef = x.val kv' := (hA 21 (Nat.le_of_ble_eq_true rfl)).trans hv
            obtain ⟨ak', ck', rfl⟩ := hkb.shape
            unfold Ft.val at e21
            have hrk' := (HRK.out.keep hld.size (hld.block HRK.out.lt)).keep hl4.size (hl4.block (Nat.lt_of_lt_of_le HRK.out.lt hld.size))
            have hfl : (flatK R').length = R'.length * 4 := flatK_length R'
            have y0 := (hrk'.cell (i * 4) (by omega)).trans (flatK_get R' i hi' 0 (by omega))
            have y1 := (hrk'.cell (i * 4 + 1) (by omega)).trans (flatK_get R' i hi' 1 (by omega))
            have y2 := (hrk'.cell (i * 4 + 2) (by omega)).trans (flatK_get R' i hi' 2 (by omega))
            have y3 := (hrk'.cell (i * 4 + 3) (by omega)).trans (flatK_get R' i hi' 3 (by omega))
            have f0 := hrk'.free (i * 4) (by omega)
            have f1 := hrk'.free (i * 4 + 1) (by omega)
            have f2 := hrk'.free (i * 4 + 2) (by omega)
            have f3 := hrk'.free (i * 4 + 3) (by omega)
            rw [HP.out] at y0 y1 y2 y3
            simp only [List.getElem?_cons_zero, List.getElem?_cons_succ] at y0 y1 y2 y3
            have HKB := Lib.hid hkb
            have HL4 := Lib.hid hl4
            refine step_run (.inl rfl) ?_
            clear hA hd hrk' hkb hl4
            go_simp
            exact hK undef _ (waist2I.last (by rw [hsz]; decide) (by decide) h4 ⟨w', _, HKB.out, HL4.out, rfl⟩) trivial trivial
        case fin =>
          intro listed ys w' hall hI _
          obtain ⟨w3, kv', hkb, hl4, rfl⟩ := hI.2.2 (hall 6 (by decide))
          have HKB := Lib.hid hkb
          have HL4 : Hid (Lay wr w3) := Lib.hid (hld.trans hl4)
          clear hI hall hkb hl4
          simp only [putsFrom]
          have hB0 : ¬ w.heap.size = B := by omega
          have hB1 : ¬ w.heap.size + 1 = B := by omega
          have hk3 : Keep (fun k => k = B) wr (storeK w3 B i kv' x) := HL4.out.keep.trans (storeK_keep w3 B i kv' x)
          have hst := HST.out w3 kv' x rfl (HRK.out.keep HL4.out.size (HL4.out.block HRK.out.lt))
          have hks : KsB (fun b => w.heap.size + 2 ≤ b ∧ b ≠ B) (storeK w3 B i kv' x) kv' x := by
            refine KsB.mono (fun b _ hb => ⟨?_, ?_⟩) _ _ (KsB.keep (G := fun b => W3.heap.size ≤ b) (storeK_keep w3 B i kv' x).size (fun b hb hlt => (storeK_keep w3 B i kv' x).block b hlt ?_) _ _ HKB.out)
            · have hb : W3.heap.size ≤ b := hb
              omega
            · have hb : W3.heap.size ≤ b := hb
              omega
            · have hb : W3.heap.size ≤ b := hb
              omega
          have HNX : Hid (∃ R'' : List (Value × Ft), R''.map (·.2) = R.map (·.2) ∧ Lay w (storeK w3 B i kv' x) ∧ FBox (storeK w3 B i kv' x) w.heap.size (.slice (some ⟨B, 0, none⟩) R.length c1) (.mk o nm t (R.map (·.2))) ∧ FBox (storeK w3 B i kv' x) (w.heap.size + 1) (.slice none 0 0) (.mk 0 ⟨#[]⟩ ⟨#[]⟩ []) ∧
              RowK B (storeK w3 B i kv' x) R'' ∧ (∀ j (h : j < R''.length), j < i + 1 → KsB (fun b => w.heap.size + 2 ≤ b ∧ b ≠ B) (storeK w3 B i kv' x) R''[j].1 R''[j].2) ∧ (∀ j (h : j < R''.length), i + 1 ≤ j → KsAt w R''[j].1 R''[j].2)) := Lib.hid (by
            refine ⟨R'.set i (kv', x), hst.2, Keep.after (H := fun _ => False) (fun k hk => .inr (by omega)) HL.out hk3, HF.out.keep hk3 hB0, HZ.out.keep hk3 hB1, hst.1, fun j h hj => ?_, fun j h hj => ?_⟩
            · rw [List.length_set] at h
              by_cases hji : j = i
              · subst hji
                rw [List.getElem_set_self]
                exact hks
              · rw [List.getElem_set_ne (Ne.symm hji)]
                exact KsB.keep hk3.size (fun b hb hlt => hk3.block b hlt (fun e => hb.2 e)) _ _ (HDONE.out j h (by omega))
            · rw [List.length_set] at h
              rw [List.getElem_set_ne (by omega)]
              exact HREST.out j h (by omega))
          clear hk3 hst hks
          generalize storeK w3 B i kv' x = W5 at HNX ⊢
          gi_wp2_with fail
          go_roundw
          case rel =>
            obtain ⟨R'', g1, g2, g3, g4, g5, g6, g7⟩ := HNX.out
            exact ⟨_, _, .int .i64 ((i : Int) + 1), ⟨i + 1, by go_num, by omega, R'', g1, g2, g3, g4, .inr ⟨g5, g6, g7⟩⟩, rfl, rfl, rfl⟩
          case measure => simp [intOf]; omega
      · obtain rfl : i = R.length := by omega
        have HRES : Hid (∀ W' : World, Keep (fun k => k = w.heap.size + 1) wr W' → ∀ ca' : Nat, KsB (fun b => w.heap.size ≤ b) W' (.slice a1 R.length c1) (.mk o nm t (R.map (·.2)))) := Lib.hid (by
          intro W' hk' _
          rw [KsB]
          refine ⟨a1, c1, by rw [List.length_map], by rw [List.length_map]; omega, ?_⟩
          rcases hrow with h0 | ⟨B, ha1, hB, hrk, hdone, _⟩
          · exact .inl (by rw [h0]; rfl)
          · refine .inr ⟨B, 0, ha1, by omega, Nat.lt_of_lt_of_le hrk.lt hk'.size, ?_⟩
            have hrk2 := hrk.keep hk'.size (hk'.block B hrk.lt (by omega))
            rw [← hR']
            refine KbAt.of_cells 0 R' (fun j hj => by rw [Nat.zero_add]; exact hrk2.cell j hj) fun p hp => ?_
            obtain ⟨j, hj, rfl⟩ := List.getElem_of_mem hp
            exact KsB.mono (fun b _ hb => Nat.le_trans (by omega) hb.1) _ _ (KsB.keep hk'.size (fun b hb hlt => hk'.block b hlt (fun e => by have := hb.1; omega)) _ _ (hdone j hj (by omega))))
        obtain ⟨x0, x1, x2, x3, _, _, _, _⟩ := hf.bx
        obtain ⟨y0, y1, y2, y3, z0, z1, z2, z3⟩ := hz.bx
        simp only [Ft.op, Ft.name, Ft.text] at x0 x1 x2 y0 y1 y2
        have HBX := Lib.hid hz.bx
        have HL := Lib.hid hl
        clear hf hz hrow hl hlt
        gi_wp2_with fail
        have hq := HBX.out.all (.int .i64 o) (.string nm) (.string t) (.slice a1 R.length c1)
        unfold stored at hq
        obtain ⟨q0, q1, q2, q3, _, _, _, _⟩ := hq
        refine bodyPost_ret (v := .agg #[.int .i64 o, .string nm, .string t, .slice a1 R.length c1]) (by simp [results, Try.results32, go_sem, q0, q1, q2, q3]) rfl ?_
        have hk : Keep (fun k => k = w.heap.size + 1) wr (stored wr (w.heap.size + 1) (.int .i64 o) (.string nm) (.string t) (.slice a1 R.length c1)) :=
          ⟨rfl, rfl, rfl, Nat.le_of_eq (stored_size _ _ _ _).symm, Nat.le_refl _, fun b _ hb => stored_other hb _ _ _ _⟩
        refine ⟨.slice a1 R.length c1, rfl, HRES.out _ hk 0, keep_stored HL.out (by omega) _ _ _ _⟩

end Go.Proofs.Ytgmahdeaggjjgaa
