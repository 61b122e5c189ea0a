/-
  slices.CompactFunc of entries, with the function that Sort hands it.
-/
import Derived.Test.YtgcldnojmdabpaaSortFn
import Derived.Shelf.SlSortCmp.QuietGrown
namespace Go.Proofs.Ytgcldnojmdabpaa
open Go.RowKit Go

set_option maxHeartbeats 2000000 in
set_option maxRecDepth 100000 in
/-- What Sort hands to CompactFunc. -/
theorem eq_any (desc : Bool) {G H : Nat → Prop} {w : World} {x y : Ent} {xl yl : Value} (hx : LabsAt G w xl x.labs) (hy : LabsAt H w yl y.labs) (c : Nat) (hc : w.cell? ⟨c, 0, none⟩ = some (.func (.func (ordF desc)) #[] #[])) (hlt : c < w.heap.size) :
    Calls Try.prog 56 #[x.val xl, y.val yl, .pointer (some ⟨c, 0, none⟩)] w fun e w' => e = .returned (.bool (decide (ordC desc x y = 0))) ∧ Lay w w' := by
  obtain ⟨a, ca, rfl, _⟩ := id hx
  obtain ⟨b, cb, rfl, _⟩ := id hy
  have HL0 : Hid (Lay w ((w.alloc (.cells #[.int .i64 x.tm, .slice a x.labs.length ca, .string x.line] 24)).alloc (.cells #[.int .i64 y.tm, .slice b y.labs.length cb, .string y.line] 24))) := Lib.hid (((Keep.refl _ _).alloc _).alloc _)
  have H1 := Lib.hid (ordF_any desc (hx.lay HL0.out) (hy.lay HL0.out))
  unfold Ent.val at H1 ⊢
  clear hx hy
  generalize ordC desc x y = r at H1
  cases desc
  all_goals
    by_cases h0 : r = 0
    · subst h0
      go_enter Try.func56, Try.ntmps56
      go_wp2_with fail
      refine H1.out.mono ?_
      rintro e w1 ⟨rfl, hl1⟩
      go_wp2_with fail
      go_ret
      exact ⟨by simp, Keep.trans HL0.out hl1⟩
    · have hz : (r == 0) = false := by simpa using h0
      rw [decide_eq_false h0]
      clear h0
      go_enter Try.func56, Try.ntmps56
      go_wp2_with fail
      refine H1.out.mono ?_
      rintro e w1 ⟨rfl, hl1⟩
      go_wp2_with fail
      go_ret
      exact ⟨by simp, Keep.trans HL0.out hl1⟩

/-- A callee's contract, met in a world of the class. -/
theorem grown_of_lay {f : Nat} {args : Array Value} {w : World} {n : Nat} {os : Array Obj} {v : Value} (h : Calls Try.prog f args (Sort.grow (w.drewN n) os) fun e w' => e = .returned v ∧ Lay (Sort.grow (w.drewN n) os) w') :
    Calls Try.prog f args (Sort.grow (w.drewN n) os) fun e w'' => e = .returned v ∧ ∃ p : GrownBy, w'' = Sort.grow (w.drewN p.n) p.os :=
  Calls.grown_of (h.mono fun _ _ ⟨he, hl⟩ => ⟨he, hl.grown⟩)

theorem mem_zeroCells {cells : Array Value} {n : Nat} {u : Value} (h : u ∈ (Builtin.zeroCells cells n).toList) : u ∈ cells.toList := by
  unfold Builtin.zeroCells at h
  rw [Array.toList_map, List.mem_map] at h
  obtain ⟨i, hi, rfl⟩ := h
  rw [Array.toList_range, List.mem_range] at hi
  have hp : 0 < cells.size := by
    rcases Nat.eq_zero_or_pos cells.size with h0 | h0
    · rw [h0, Nat.mul_zero] at hi; omega
    · exact h0
  have hlt := Nat.mod_lt i hp
  rw [getElem!_pos cells _ hlt]
  exact Array.mem_toList_iff.2 (Array.getElem_mem _)

/-- clear(s), s a slice of n > 0 elements of k cells each. -/
theorem run_clear_k (w : World) (t e ty : TypeId) (z : Value) (k : Nat) (ht : Try.prog.underlying t = some (.slice e)) (hv : ∀ w, (zeroValue e).run Try.prog w = .ok z w) (hz : z.cells.size = k) (h1 : ∀ u ∈ z.cells.toList, u.oneCell' = true) (b o n c : Nat) (hn : 0 < n)
    (hc : ∀ j, j < n * k → (w.cell? ⟨b, o + j, none⟩).isSome = true) (hf : ∀ j, j < n * k → w.frozen? ⟨b, o + j, none⟩ = false) :
    (Builtin.clear_ #[t] ty #[.slice (some ⟨b, o, none⟩) n c]).run Try.prog w = .ok (.tuple #[]) (w.setCells b o (Builtin.zeroCells z.cells n).toList) := by
  have hl : (Builtin.zeroCells z.cells n).toList.length = n * k := by rw [Array.length_toList, size_zeroCells, hz]
  have hst := run_storeCells_cells (P := Try.prog) b o (Builtin.zeroCells z.cells n).toList 0 w (by rw [hl]; simpa using hc) (by rw [hl]; simpa using hf) (by intro v hv'; exact h1 v (mem_zeroCells hv'))
  simp only [Nat.add_zero] at hst
  obtain ⟨m, rfl⟩ : ∃ m, n = m + 1 := ⟨n - 1, by omega⟩
  simp [Builtin.clear_, run_underlying ht, hv, hst]

/-- How far the second loop is: C stands at the front, the first i0 + k have been looked at. -/
structure CI (M : Nat → Prop) (desc : Bool) (w : World) (g cap : Nat) (R : List (Value × Ent)) (i0 i k : Nat) (C : List (Value × Ent)) (wr : World) : Prop where
  len : C.length = i
  lt : i + 1 ≤ i0 + k
  one : 1 ≤ i0
  pos : 1 ≤ k
  le : i0 + k ≤ R.length
  keep : Keep (fun b => b = g) w wr
  done : RawAt wr g 0 C
  rest : ∀ j (h : j < R.length), i0 + k ≤ j + 1 → wr.cell? ⟨g, j * 3, none⟩ = some (.int .i64 R[j].2.tm) ∧ wr.cell? ⟨g, j * 3 + 1, none⟩ = some R[j].1 ∧ wr.cell? ⟨g, j * 3 + 2, none⟩ = some (.string R[j].2.line)
  ex : ∀ j, j < cap * 3 → (wr.cell? ⟨g, j, none⟩).isSome = true ∧ wr.frozen? ⟨g, j, none⟩ = false
  labs : RawL M w C
  strict : Strict (ordC desc) (C.map Prod.snd)
  mem : ∀ x, x ∈ C.map Prod.snd ↔ x ∈ (R.take (i0 + k)).map Prod.snd
  last : ∃ C0 z, C = C0 ++ [z] ∧ ∀ h : i0 + k - 1 < R.length, z.2 = R[i0 + k - 1].2

theorem CI.lay {M : Nat → Prop} {desc : Bool} {w : World} {g cap : Nat} {R : List (Value × Ent)} {i0 i k : Nat} {C : List (Value × Ent)} {wr wr' : World} (h : CI M desc w g cap R i0 i k C wr) (hg : g < w.heap.size) (hl : Lay wr wr') : CI M desc w g cap R i0 i k C wr' := by
  have hgw : g < wr.heap.size := Nat.lt_of_lt_of_le hg h.keep.size
  refine ⟨h.len, h.lt, h.one, h.pos, h.le, h.keep.trans hl.keep, h.done.lay hgw hl, fun j hj hk => ?_, fun j hj => ?_, h.labs, h.strict, h.mem, h.last⟩
  · obtain ⟨a, b, c⟩ := h.rest j hj hk
    exact ⟨(hl.cell hgw).trans a, (hl.cell hgw).trans b, (hl.cell hgw).trans c⟩
  · rw [World.cell?_of_block (a := ⟨g, j, none⟩) (hl.block hgw), World.frozen?_of_block (a := ⟨g, j, none⟩) (hl.block hgw)]
    exact h.ex j hj

theorem take_snocE {R : List (Value × Ent)} {n : Nat} (h : n < R.length) : (R.take (n + 1)).map Prod.snd = (R.take n).map Prod.snd ++ [R[n].2] := by
  rw [List.take_succ_eq_append_getElem h, List.map_append]; rfl

theorem CI.skip {M : Nat → Prop} {desc : Bool} {w : World} {g cap : Nat} {R : List (Value × Ent)} {i0 i k : Nat} {C : List (Value × Ent)} {wr : World} (h : CI M desc w g cap R i0 i k C wr) (hlt : i0 + k < R.length) (he : ordC desc R[i0 + k].2 (R[i0 + k - 1]'(by omega)).2 = 0) : CI M desc w g cap R i0 i (k + 1) C wr := by
  have hl := h.lt
  have ho := h.one
  refine ⟨h.len, by omega, h.one, by omega, by omega, h.keep, h.done, fun j hj hk => h.rest j hj (by omega), h.ex, h.labs, h.strict, fun x => ?_, ?_⟩
  · rw [h.mem x, ← Nat.add_assoc, take_snocE hlt, List.mem_append, List.mem_singleton]
    constructor
    · exact .inl
    · rintro (hx | rfl)
      · exact hx
      · rw [(ordC_lc desc).eq _ _ he]
        exact List.mem_map_of_mem (List.mem_take_iff_getElem.2 ⟨i0 + k - 1, by omega, rfl⟩)
  · obtain ⟨C0, z, hC, hz⟩ := h.last
    refine ⟨C0, z, hC, fun h' => ?_⟩
    rw [hz (by omega)]
    have := (ordC_lc desc).eq _ _ he
    simp only [← Nat.add_assoc, Nat.add_sub_cancel]
    exact this.symm

theorem CI.put {M : Nat → Prop} {desc : Bool} {w : World} {g cap : Nat} {R : List (Value × Ent)} {i0 i k : Nat} {C : List (Value × Ent)} {wr : World} (h : CI M desc w g cap R i0 i k C wr) (hg : g < w.heap.size) (hle : R.length ≤ cap) (hlt : i0 + k < R.length) (hL : RawL M w R) (hw : Weak (ordC desc) (R.map Prod.snd)) (he : ¬ ordC desc R[i0 + k].2 (R[i0 + k - 1]'(by omega)).2 = 0) :
    CI M desc w g cap R i0 (i + 1) (k + 1) (C ++ [R[i0 + k]]) (wr.setCells g (i * 3) (rawC R[i0 + k])) := by
  have hl := h.lt
  have ho := h.one
  have hgw : g < wr.heap.size := Nat.lt_of_lt_of_le hg h.keep.size
  have hcl := h.len
  have out : ∀ o, (o < i * 3 ∨ i * 3 + 3 ≤ o) → (wr.setCells g (i * 3) (rawC R[i0 + k])).cell? ⟨g, o, none⟩ = wr.cell? ⟨g, o, none⟩ := fun o ho => World.cell?_setCells_out g _ _ _ _ (fun _ _ => by show o < i * 3 ∨ i * 3 + (rawC R[i0 + k]).length ≤ o; simpa [rawC] using ho)
  have inn : ∀ j, j < 3 → (wr.setCells g (i * 3) (rawC R[i0 + k])).cell? ⟨g, i * 3 + j, none⟩ = (rawC R[i0 + k])[j]? := fun j hj => by
    have hj' : j < (rawC R[i0 + k]).length := by simpa [rawC] using hj
    rw [World.cell?_setCells_in g (rawC R[i0 + k]) (i * 3) wr (fun j hj => (h.ex _ (by simp [rawC] at hj; omega)).1) j hj', List.getElem?_eq_getElem hj']
  refine ⟨by simp [hcl], by omega, h.one, by omega, by omega, h.keep.trans (keep_setCells _ _ _ _ _ rfl), fun j hj => ?_, fun j hj hk => ?_, fun j hj => ⟨?_, ?_⟩, fun x hx => ?_, ?_, fun x => ?_, ?_⟩
  · rw [List.length_append, List.length_singleton, hcl] at hj
    by_cases hji : j < i
    · rw [List.getElem_append_left (by omega)]
      obtain ⟨a, b, c⟩ := h.done j (by omega)
      refine ⟨?_, ?_, ?_⟩
      · rw [Nat.zero_add, out _ (by omega)]; simpa using a
      · rw [Nat.zero_add, out _ (by omega)]; simpa using b
      · rw [Nat.zero_add, out _ (by omega)]; simpa using c
    · obtain rfl : j = i := by omega
      rw [List.getElem_append_right (by omega)]
      simp only [hcl, Nat.sub_self, List.getElem_singleton, Nat.zero_add]
      exact ⟨by simpa [rawC] using inn 0 (by omega), by simpa [rawC] using inn 1 (by omega), by simpa [rawC] using inn 2 (by omega)⟩
  · obtain ⟨a, b, c⟩ := h.rest j hj (by omega)
    exact ⟨(out _ (by omega)).trans a, (out _ (by omega)).trans b, (out _ (by omega)).trans c⟩
  · by_cases hin : i * 3 ≤ j ∧ j < i * 3 + 3
    · have := inn (j - i * 3) (by omega)
      rw [show i * 3 + (j - i * 3) = j by omega] at this
      rw [this, List.getElem?_eq_getElem (by simp [rawC]; omega)]
      rfl
    · rw [out j (by omega)]
      exact (h.ex j hj).1
  · rw [World.frozen?_setCells]
    exact (h.ex j hj).2
  · rcases List.mem_append.1 hx with hx | hx
    · exact h.labs x hx
    · rw [List.mem_singleton.1 hx]
      exact hL _ (List.getElem_mem hlt)
  · obtain ⟨C0, z, hC, hz⟩ := h.last
    have hs := h.strict
    rw [hC, List.map_append] at hs ⊢
    rw [List.map_append]
    refine Strict.snoc (ordC_lc desc) hs ?_
    rw [hz (by omega)]
    have hwk : ordC desc R[i0 + k].2 (R[i0 + k - 1]'(by omega)).2 ≠ -1 := by
      have := List.pairwise_iff_getElem.1 hw (i0 + k - 1) (i0 + k) (by simp; omega) (by simp; omega) (by omega)
      simpa using this
    have hn := (ordC_lc desc).neg (R[i0 + k].2) (R[i0 + k - 1]'(by omega)).2
    have ht := (ordC_lc desc).tri (R[i0 + k].2) (R[i0 + k - 1]'(by omega)).2
    omega
  · rw [List.map_append, List.mem_append, h.mem x, ← Nat.add_assoc, take_snocE hlt, List.mem_append]
    simp
  · refine ⟨C, R[i0 + k], rfl, fun h' => ?_⟩
    simp only [← Nat.add_assoc, Nat.add_sub_cancel]

theorem CI.fin {M : Nat → Prop} {desc : Bool} {w : World} {g cap : Nat} {R : List (Value × Ent)} {i0 k : Nat} {C : List (Value × Ent)} {wr : World} (h : CI M desc w g cap R i0 C.length k C wr) (hM : ∀ b, M b → b ≠ g) (hk : i0 + k = R.length) (hle : R.length ≤ cap) (Z : List Value) (hZ : Z.length = (R.length - C.length) * 3) :
    RawAt (wr.setCells g (C.length * 3) Z) g 0 C ∧ (∀ j, j < cap * 3 → ((wr.setCells g (C.length * 3) Z).cell? ⟨g, j, none⟩).isSome = true ∧ (wr.setCells g (C.length * 3) Z).frozen? ⟨g, j, none⟩ = false) ∧
      RawL M (wr.setCells g (C.length * 3) Z) C ∧ Sorts (ordC desc) (R.map Prod.snd) (C.map Prod.snd) ∧ Keep (fun b => b = g) w (wr.setCells g (C.length * 3) Z) := by
  have hl := h.lt
  have out : ∀ o, (o < C.length * 3 ∨ C.length * 3 + Z.length ≤ o) → (wr.setCells g (C.length * 3) Z).cell? ⟨g, o, none⟩ = wr.cell? ⟨g, o, none⟩ := fun o ho => World.cell?_setCells_out g _ _ _ _ (fun _ _ => ho)
  have hkeep : Keep (fun b => b = g) w (wr.setCells g (C.length * 3) Z) := h.keep.trans (keep_setCells _ _ _ _ _ rfl)
  refine ⟨fun j hj => ?_, fun j hj => ⟨?_, ?_⟩, h.labs.keep hkeep fun b hb _ => hM b hb, ⟨h.strict, fun x => ?_⟩, hkeep⟩
  · obtain ⟨a, b, c⟩ := h.done j hj
    exact ⟨(out _ (by omega)).trans a, (out _ (by omega)).trans b, (out _ (by omega)).trans c⟩
  · by_cases hin : C.length * 3 ≤ j ∧ j < C.length * 3 + Z.length
    · have hj' : j - C.length * 3 < Z.length := by omega
      have := World.cell?_setCells_in g Z (C.length * 3) wr (fun q hq => (h.ex _ (by omega)).1) (j - C.length * 3) hj'
      rw [show C.length * 3 + (j - C.length * 3) = j by omega] at this
      rw [this]
      rfl
    · rw [out j (by omega)]
      exact (h.ex j hj).1
  · rw [World.frozen?_setCells]
    exact (h.ex j hj).2
  · rw [h.mem x, hk, List.take_length]

theorem CI.start {M : Nat → Prop} {desc : Bool} {w : World} {g cap : Nat} {R : List (Value × Ent)} {i0 : Nat} {wr : World} (hg : g < w.heap.size) (h1 : 1 ≤ i0) (hlt : i0 < R.length) (hraw : RawAt w g 0 R) (hf : ∀ j, j < cap * 3 → (w.cell? ⟨g, j, none⟩).isSome = true ∧ w.frozen? ⟨g, j, none⟩ = false) (hL : RawL M w R) (hl : Lay w wr)
    (hs : Strict (ordC desc) ((R.take i0).map Prod.snd)) (he : ordC desc R[i0].2 (R[i0 - 1]'(by omega)).2 = 0) : CI M desc w g cap R i0 i0 1 (R.take i0) wr := by
  have hcell : ∀ j (h : j < R.length), wr.cell? ⟨g, j * 3, none⟩ = some (.int .i64 R[j].2.tm) ∧ wr.cell? ⟨g, j * 3 + 1, none⟩ = some R[j].1 ∧ wr.cell? ⟨g, j * 3 + 2, none⟩ = some (.string R[j].2.line) := fun j hj => by
    obtain ⟨a, b, c⟩ := hraw j hj
    rw [Nat.zero_add] at a b c
    exact ⟨(hl.cell hg).trans a, (hl.cell hg).trans b, (hl.cell hg).trans c⟩
  refine ⟨by rw [List.length_take]; omega, by omega, h1, Nat.le_refl _, by omega, hl.keep, fun j hj => ?_, fun j hj _ => hcell j hj, fun j hj => ?_, fun x hx => hL x (List.mem_of_mem_take hx), hs, fun x => ?_, ?_⟩
  · rw [List.length_take] at hj
    rw [List.getElem_take, Nat.zero_add]
    exact hcell j (by omega)
  · rw [World.cell?_of_block (a := ⟨g, j, none⟩) (hl.block hg), World.frozen?_of_block (a := ⟨g, j, none⟩) (hl.block hg)]
    exact hf j hj
  · rw [take_snocE hlt, List.mem_append, List.mem_singleton]
    constructor
    · exact .inl
    · rintro (hx | rfl)
      · exact hx
      · rw [(ordC_lc desc).eq _ _ he]
        exact List.mem_map_of_mem (List.mem_take_iff_getElem.2 ⟨i0 - 1, by omega, rfl⟩)
  · refine ⟨R.take (i0 - 1), R[i0 - 1]'(by omega), ?_, fun h' => ?_⟩
    · have := List.take_succ_eq_append_getElem (l := R) (i := i0 - 1) (by omega)
      rwa [show i0 - 1 + 1 = i0 by omega] at this
    · simp only [Nat.add_sub_cancel]
      rw [(ordC_lc desc).eq _ _ he]

set_option maxHeartbeats 8000000 in
set_option maxRecDepth 100000 in
theorem compact_some (desc : Bool) {M : Nat → Prop} {w : World} {g cap : Nat} {R : List (Value × Ent)} (hg : g < w.heap.size) (hle : R.length ≤ cap) (hraw : RawAt w g 0 R) (hf : ∀ j, j < cap * 3 → (w.cell? ⟨g, j, none⟩).isSome = true ∧ w.frozen? ⟨g, j, none⟩ = false)
    (hM : ∀ b, M b → b ≠ g) (hL : RawL M w R) (hn : R.length ≤ 1000000) (hw : Weak (ordC desc) (R.map Prod.snd)) (c : Nat) (hc : w.cell? ⟨c, 0, none⟩ = some (.func (.func (ordF desc)) #[] #[])) (hlt : c < w.heap.size) (hcg : c ≠ g) :
    Calls Try.prog 55 #[.slice (some ⟨g, 0, none⟩) R.length cap, .func (.func 56) #[] #[.pointer (some ⟨c, 0, none⟩)]] w fun e w' =>
      ∃ R', e = .returned (.slice (some ⟨g, 0, none⟩) R'.length cap) ∧ R'.length ≤ cap ∧ RawAt w' g 0 R' ∧ (∀ j, j < cap * 3 → (w'.cell? ⟨g, j, none⟩).isSome = true ∧ w'.frozen? ⟨g, j, none⟩ = false) ∧ RawL M w' R' ∧ Sorts (ordC desc) (R.map Prod.snd) (R'.map Prod.snd) ∧ Keep (fun b => b = g) w w' := by
  have HRAW := Lib.hid hraw
  have HF := Lib.hid hf
  have HRL := Lib.hid hL
  have HW := Lib.hid hw
  have HC := Lib.hid hc
  clear hraw hf hL hw hc
  by_cases h2 : R.length < 2
  · have d2 : decide ((R.length : Int) < 2) = true := by simp; omega
    go_enter Try.func55, Try.ntmps55
    go_wp2_with fail
    go_ret
    refine ⟨R, rfl, hle, HRAW.out, HF.out, HRL.out, ⟨?_, fun x => Iff.rfl⟩, Keep.refl _ _⟩
    match R, h2 with
    | [], _ => exact Strict.nil _
    | [a], _ => exact Strict.one _ _
  · have d2 : decide ((R.length : Int) < 2) = false := by simp; omega
    go_enter Try.func55, Try.ntmps55
    go_wp2_with fail
    clear d2
    go_loopw [5] (fun vi wr => ∃ k : Nat, vi = .int .i64 k ∧ 1 ≤ k ∧ k ≤ R.length ∧ Lay w wr ∧ Strict (ordC desc) ((R.take k).map Prod.snd)) (fun vi _ => R.length - (intOf vi).toNat)
    case atStart =>
      refine ⟨1, rfl, Nat.le_refl _, by omega, Keep.refl _ _, ?_⟩
      match R, h2 with
      | a :: r, _ => exact Strict.one _ _
    case round =>
      obtain ⟨k, rfl, hk1, hk, hl, hs⟩ := hrel
      have HS := Lib.hid hs
      have HL := Lib.hid hl
      clear hs
      by_cases hkl : k < R.length
      · have e1 := HRAW.out k hkl
        have e0 := HRAW.out (k - 1) (by omega)
        have l1 := HRL.out _ (List.getElem_mem hkl)
        have l0 := HRL.out _ (List.getElem_mem (show k - 1 < R.length by omega))
        obtain ⟨x, hxk⟩ : ∃ x, R[k] = x := ⟨_, rfl⟩
        obtain ⟨y, hyk⟩ : ∃ y, R[k - 1]'(by omega) = y := ⟨_, rfl⟩
        rw [hxk] at e1 l1
        rw [hyk] at e0 l0
        obtain ⟨xl, xe⟩ := x
        obtain ⟨yl, ye⟩ := y
        have E1 := Lib.hid e1
        have E0 := Lib.hid e0
        have hgw : g < wr.heap.size := Nat.lt_of_lt_of_le hg hl.size
        simp only [Nat.zero_add] at e1 e0
        have f0 := fun n os => cell_grown (n := n) (os := os) (by exact hgw) ((hl.cell hg).trans e1.1)
        have f1 := fun n os => cell_grown (n := n) (os := os) (by exact hgw) ((hl.cell hg).trans e1.2.1)
        have f2 := fun n os => cell_grown (n := n) (os := os) (by exact hgw) ((hl.cell hg).trans e1.2.2)
        have y0 := fun n os => cell_grown (n := n) (os := os) (by exact hgw) ((hl.cell hg).trans e0.1)
        have y1 := fun n os => cell_grown (n := n) (os := os) (by exact hgw) ((hl.cell hg).trans e0.2.1)
        have y2 := fun n os => cell_grown (n := n) (os := os) (by exact hgw) ((hl.cell hg).trans e0.2.2)
        have kk : ((k : Int) - 1).toNat = k - 1 := by omega
        have b1 : (0 : Int) ≤ (k : Int) - 1 := by omega
        have b2 : (k : Int) - 1 < (R.length : Int) := by omega
        have b3 : (1 : Int) ≤ (k : Int) := by omega
        have kw : IntKind.i64.wrap ((k : Int) - 1) = (k : Int) - 1 := by rw [IntKind.wrap_i64]; omega
        have hmx : Try.prog.follows .mixedOrders = true := by kernel_rfl
        have HEQ : Hid (∀ n os, Calls Try.prog 56 #[xe.val xl, ye.val yl, .pointer (some ⟨c, 0, none⟩)] (Sort.grow (wr.drewN n) os) fun e w' => e = .returned (.bool (decide (ordC desc xe ye = 0))) ∧ ∃ p : GrownBy, w' = Sort.grow (wr.drewN p.n) p.os) := Lib.hid fun n os => by
          have hlg : Lay w (Sort.grow (wr.drewN n) os) := Keep.trans HL.out (Lay.of_grown n os)
          exact grown_of_lay (eq_any desc (l1.lay hlg) (l0.lay hlg) c ((hlg.cell hlt).trans HC.out) (Nat.lt_of_lt_of_le hlt hlg.size))
        unfold Ent.val at HEQ
        have L1 := Lib.hid l1
        have L0 := Lib.hid l0
        clear e1 e0 hl l1 l0
        have HX := Lib.hid hxk
        have HY := Lib.hid hyk
        clear hxk hyk
        by_cases heq : ordC desc xe ye = 0
        · rw [decide_eq_true heq] at HEQ
          have hci := CI.start (cap := cap) (wr := wr) hg hk1 hkl HRAW.out HF.out HRL.out HL.out HS.out (by rw [HX.out, HY.out]; exact heq)
          have HCI := Lib.hid hci
          clear hci heq
          go_wp2_with fail
          go_quiet_grown ((go_at_call 56; exact HEQ.out _ _))
          have hci2 := HCI.out.lay hg (Lay.of_grown nq osq)
          have HCI2 := Lib.hid hci2
          clear hci2 f0 f1 f2 y0 y1 y2 HEQ
          go_wp2_with fail
          go_loopw [5, 7] (fun vi vk wr => ∃ (i j : Nat) (C : List (Value × Ent)), vi = .int .i64 i ∧ vk = .int .i64 j ∧ CI M desc w g cap R k i j C wr) (fun _ vk _ => R.length - (intOf vk).toNat)
          case atStart => exact ⟨k, 1, _, rfl, rfl, HCI2.out⟩
          case round =>
            obtain ⟨i, j, C, rfl, rfl, hci⟩ := hrel
            have HCI := Lib.hid hci
            have hi1 := hci.lt
            have hj1 := hci.le
            have hj0 := hci.pos
            have hgw : g < wr.heap.size := Nat.lt_of_lt_of_le hg hci.keep.size
            clear hci
            by_cases hjl : k + j < R.length
            · have rx := HCI.out.rest (k + j) hjl (by omega)
              have ry := HCI.out.rest (k + j - 1) (by omega) (by omega)
              have lx := HRL.out _ (List.getElem_mem hjl)
              have ly := HRL.out _ (List.getElem_mem (show k + j - 1 < R.length by omega))
              obtain ⟨x', hxk'⟩ : ∃ x', R[k + j] = x' := ⟨_, rfl⟩
              obtain ⟨y', hyk'⟩ : ∃ y', R[k + j - 1]'(by omega) = y' := ⟨_, rfl⟩
              rw [hxk'] at rx lx
              rw [hyk'] at ry ly
              obtain ⟨ul, ue⟩ := x'
              obtain ⟨zl, ze⟩ := y'
              rw [show (k + j) * 3 = k * 3 + j * 3 by omega] at rx
              rw [show (k + j - 1) * 3 = k * 3 + (j - 1) * 3 by omega] at ry
              simp only [] at rx ry lx ly
              have f0 := fun n os => cell_grown (n := n) (os := os) (by exact hgw) rx.1
              have f1 := fun n os => cell_grown (n := n) (os := os) (by exact hgw) rx.2.1
              have f2 := fun n os => cell_grown (n := n) (os := os) (by exact hgw) rx.2.2
              have z0 := fun n os => cell_grown (n := n) (os := os) (by exact hgw) ry.1
              have z1 := fun n os => cell_grown (n := n) (os := os) (by exact hgw) ry.2.1
              have z2 := fun n os => cell_grown (n := n) (os := os) (by exact hgw) ry.2.2
              have jj : ((j : Int) - 1).toNat = j - 1 := by omega
              have jw : IntKind.i64.wrap ((j : Int) - 1) = (j : Int) - 1 := by rw [IntKind.wrap_i64]; omega
              have jb0 : (j : Int) < ((R.length - k : Nat) : Int) := by omega
              have jb1 : (0 : Int) ≤ (j : Int) - 1 := by omega
              have jb2 : (j : Int) - 1 < ((R.length - k : Nat) : Int) := by omega
              have jb3 : (1 : Int) ≤ (j : Int) := by omega
              have hlk : ∀ b, M b → b < w.heap.size → ¬ (fun b => b = g) b := fun b hb _ => hM b hb
              have HEQ2 : Hid (∀ n os, Calls Try.prog 56 #[ue.val ul, ze.val zl, .pointer (some ⟨c, 0, none⟩)] (Sort.grow (wr.drewN n) os) fun e w' => e = .returned (.bool (decide (ordC desc ue ze = 0))) ∧ ∃ p : GrownBy, w' = Sort.grow (wr.drewN p.n) p.os) := Lib.hid fun n os => by
                have hlg : Lay wr (Sort.grow (wr.drewN n) os) := Lay.of_grown n os
                have hcw : wr.cell? ⟨c, 0, none⟩ = some (.func (.func (ordF desc)) #[] #[]) := (World.cell?_of_block (a := ⟨c, 0, none⟩) (HCI.out.keep.block c hlt hcg)).trans HC.out
                have hcl : c < wr.heap.size := Nat.lt_of_lt_of_le hlt HCI.out.keep.size
                exact grown_of_lay (eq_any desc ((lx.keep HCI.out.keep hlk).lay hlg) ((ly.keep HCI.out.keep hlk).lay hlg) c ((hlg.cell hcl).trans hcw) (Nat.lt_of_lt_of_le hcl hlg.size))
              unfold Ent.val at HEQ2
              obtain ⟨ua, uc, rfl, _⟩ := id lx
              have HX2 := Lib.hid hxk'
              have HY2 := Lib.hid hyk'
              clear rx ry lx ly hxk' hyk' hlk
              by_cases heq2 : ordC desc ue ze = 0
              · rw [decide_eq_true heq2] at HEQ2
                have HN := Lib.hid (HCI.out.skip hjl (by rw [HX2.out, HY2.out]; exact heq2))
                clear heq2
                go_wp2_with fail
                go_quiet_grown ((go_at_call 56; exact HEQ2.out _ _))
                have HN2 := Lib.hid (HN.out.lay hg (Lay.of_grown nq osq))
                clear f0 f1 f2 z0 z1 z2 HEQ2
                go_wp2_with fail
                go_roundw
                case rel => exact ⟨i, j + 1, C, rfl, by go_num, HN2.out⟩
                case measure => simp [intOf]; omega
              · have hp := Lib.hid heq2
                have d0 := decide_eq_false heq2
                rw [d0] at HEQ2
                clear d0 heq2
                go_wp2_with fail
                go_quiet_grown ((go_at_call 56; exact HEQ2.out _ _))
                have HN2 := Lib.hid (HCI.out.lay hg (Lay.of_grown nq osq))
                have HPUT := Lib.hid (HN2.out.put hg hle hjl HRL.out HW.out (by rw [HX2.out, HY2.out]; exact hp.out))
                obtain ⟨p0, q0⟩ := HN2.out.ex (i * 3) (by omega)
                obtain ⟨p1, q1⟩ := HN2.out.ex (i * 3 + 1) (by omega)
                obtain ⟨p2, q2⟩ := HN2.out.ex (i * 3 + 2) (by omega)
                obtain ⟨o0, r0⟩ := Option.isSome_iff_exists.1 p0
                obtain ⟨o1, r1⟩ := Option.isSome_iff_exists.1 p1
                obtain ⟨o2, r2⟩ := Option.isSome_iff_exists.1 p2
                have g0 := f0 nq osq
                have g1 := f1 nq osq
                have g2 := f2 nq osq
                have ib : (i : Int) < (R.length : Int) := by omega
                clear f0 f1 f2 z0 z1 z2 HEQ2 p0 p1 p2
                generalize Sort.grow (wr.drewN nq) osq = W2 at *
                go_wp2_with fail
                go_roundw
                case rel =>
                  have h := HPUT.out
                  rw [HX2.out] at h
                  exact ⟨i + 1, j + 1, _, by go_num, by go_num, h⟩
                case measure => simp [intOf]; omega
            · have hjn : k + j = R.length := by omega
              have hlen := HCI.out.len
              subst hlen
              have hclr : ∀ ty, (Builtin.clear_ #[39] ty #[.slice (some ⟨g, C.length * 3, none⟩) (R.length - C.length) (cap - C.length)]).run Try.prog wr = _ := fun ty =>
                run_clear_k wr 39 24 ty (.agg #[.int .i64 0, .slice none 0 0, .string ⟨#[]⟩]) 3 Try.underlying39 Try.zeroValue24 rfl (fun u hu => by
                  simp only [Value.cells, List.mem_cons, List.not_mem_nil, or_false] at hu
                  rcases hu with rfl | rfl | rfl <;> rfl) g (C.length * 3) (R.length - C.length) (cap - C.length) (by omega)
                  (fun q hq => (HCI.out.ex _ (by omega)).1) (fun q hq => (HCI.out.ex _ (by omega)).2)
              have ib : (C.length : Int) ≤ (R.length : Int) := by omega
              have ic : C.length ≤ cap := by omega
              have HFIN := Lib.hid (HCI.out.fin hM hjn hle (Builtin.zeroCells #[.int .i64 0, .slice none 0 0, .string ⟨#[]⟩] (R.length - C.length)).toList (by rw [Array.length_toList, size_zeroCells]; rfl))
              go_wp2_with fail
              go_ret
              obtain ⟨h1, h2, h3, h4, h5⟩ := HFIN.out
              exact ⟨C, rfl, by omega, h1, h2, h3, h4, h5⟩
        · have d0 := decide_eq_false heq
          rw [d0] at HEQ
          clear d0
          go_wp2_with fail
          go_quiet_grown ((go_at_call 56; exact HEQ.out _ _))
          have HLG := Lib.hid (Keep.trans HL.out (Lay.of_grown nq osq))
          clear f0 f1 f2 y0 y1 y2 HEQ
          go_wp2_with fail
          go_roundw
          case rel =>
            refine ⟨k + 1, by go_num, by omega, by omega, HLG.out, ?_⟩
            rw [take_snocE hkl]
            have hst := HS.out
            have e : R.take k = R.take (k - 1) ++ [R[k - 1]'(by omega)] := by
              have := List.take_succ_eq_append_getElem (l := R) (i := k - 1) (by omega)
              rwa [show k - 1 + 1 = k by omega] at this
            rw [e, List.map_append] at hst ⊢
            refine Strict.snoc (ordC_lc desc) hst ?_
            rw [HX.out, HY.out]
            have hwk := List.pairwise_iff_getElem.1 HW.out (k - 1) k (by simp; omega) (by simp; omega) (by omega)
            simp only [List.getElem_map] at hwk
            rw [HX.out, HY.out] at hwk
            have hn := (ordC_lc desc).neg xe ye
            have ht := (ordC_lc desc).tri xe ye
            simp only [] at hwk ⊢
            omega
          case measure => simp [intOf]; omega
      · obtain rfl : k = R.length := by omega
        rw [List.take_length] at HS
        go_wp2_with fail
        go_ret
        refine ⟨R, rfl, hle, HRAW.out.lay hg HL.out, fun j hj => ?_, HRL.out.lay HL.out, ⟨HS.out, fun x => Iff.rfl⟩, HL.out.keep⟩
        rw [World.cell?_of_block (a := ⟨g, j, none⟩) (HL.out.block hg), World.frozen?_of_block (a := ⟨g, j, none⟩) (HL.out.block hg)]
        exact HF.out j hj

set_option maxHeartbeats 1000000 in
theorem compact0_any (cap : Nat) (a : Option Addr) (fv : Value) (w : World) : Calls Try.prog 55 #[.slice a 0 cap, fv] w fun e w' => e = .returned (.slice a 0 cap) ∧ w' = w := by
  go_enter Try.func55, Try.ntmps55
  go_wp2
  go_ret
  exact ⟨rfl, rfl⟩

/-- slices.CompactFunc of entries. -/
theorem compact_any (desc : Bool) {G M : Nat → Prop} {w : World} {v : Value} {n : Nat} {R : List (Value × Ent)} (h : Rk 3 G w v n (flatR R)) (hM : ∀ b, M b → ¬ At v b) (hL : RawL M w R) (hn : n ≤ 1000000) (hw : Weak (ordC desc) (R.map Prod.snd)) (c : Nat) (hc : w.cell? ⟨c, 0, none⟩ = some (.func (.func (ordF desc)) #[] #[])) (hlt : c < w.heap.size) (hcv : ¬ At v c) :
    Calls Try.prog 55 #[v, .func (.func 56) #[] #[.pointer (some ⟨c, 0, none⟩)]] w fun e w' => ∃ v' R', e = .returned v' ∧ Rk 3 G w' v' R'.length (flatR R') ∧ (∀ b, At v' b → At v b) ∧ RawL M w' R' ∧ Sorts (ordC desc) (R.map Prod.snd) (R'.map Prod.snd) ∧ Keep (At v) w w' := by
  obtain ⟨rfl, ⟨rfl, rfl⟩ | ⟨g, cap, rfl, hG, hg, hle, hm, hraw, hf⟩⟩ := h.rawAt
  · exact (compact0_any 0 none _ w).mono fun e w' ⟨he, hw⟩ => ⟨_, [], he, Rk.nil _ _ _, (fun _ h => h), (fun x hx => by simp at hx), ⟨Strict.nil _, fun x => Iff.rfl⟩, by rw [hw]; exact Keep.refl _ _⟩
  · have hat : ∀ n b, At (.slice (some ⟨g, 0, none⟩) n cap) b ↔ b = g := fun n b => by
      constructor
      · rintro ⟨n, c, e⟩
        simp only [Value.slice.injEq, Option.some.injEq, Addr.mk.injEq, and_true] at e
        exact e.1.symm
      · rintro rfl
        exact ⟨_, _, rfl⟩
    refine (compact_some desc hg hle hraw hf (fun b hb e => hM b hb ((hat _ b).2 e)) hL hn hw c hc hlt (fun e => hcv ((hat _ c).2 e))).mono ?_
    rintro e w' ⟨R', rfl, h1, h2, h3, h4, h5, h6⟩
    refine ⟨_, R', rfl, ⟨by rw [flatR_length], .inr ⟨g, cap, rfl, hG, Nat.lt_of_lt_of_le hg h6.size, h1, hm, fun j hj => ?_, h3⟩⟩, (fun b hb => (hat _ b).2 ((hat _ b).1 hb)), h4, h5, h6.into fun b _ e => (hat _ b).2 e⟩
    have hj' := List.getElem?_eq_getElem hj
    rw [hj']
    have := h2.cells j _ hj'
    rwa [Nat.zero_add] at this

end Go.Proofs.Ytgcldnojmdabpaa
