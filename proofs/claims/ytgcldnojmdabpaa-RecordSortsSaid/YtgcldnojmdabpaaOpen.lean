/-
  ENTRIES THAT CAME IN, opened.
-/
import Derived.Test.YtgcldnojmdabpaaRaw
import Derived.Test.YtgcldnojmdabpaaGood
import Derived.Deep.Slices
import Derived.Deep.Strs
import Derived.Lib.SmallJoins
import Derived.ProofKit
namespace Go.Proofs.Ytgcldnojmdabpaa
open Go.RowKit Go

theorem add_lit (b off k : Nat) : (⟨b, off, none⟩ : Addr).add k = ⟨b, off + k, none⟩ := by
  unfold Addr.add
  split
  · rename_i h; subst h; rfl
  · rfl

theorem cells55 : Try.prog.cellsOf 55 = 2 := by kernel_rfl
theorem cells24 : Try.prog.cellsOf 24 = 3 := by kernel_rfl

variable {H : Type} {enc : TypeId × Value → H}

set_option maxRecDepth 100000 in
/-- One label's cells. -/
theorem lab_at {w : World} {a : Addr} {k fuel : Nat} {spare : Nat → Bool} {held : Bool} {cs : List Value} {x : DataW H × List MemPlace}
    (h : w.cells? 0 (a.add (k * 2)) 2 = some cs) (ht : DataW.trod enc Try.prog w 0 spare held fuel 55 cs = some x) :
    (a.add (k * 2)).spot = none ∧ (a.add (k * 2)).block < w.heap.size ∧ ∃ y : Lab, w.cell? (a.add (k * 2)) = some (.string y.n) ∧ w.cell? ((a.add (k * 2)).add 1) = some (.string y.v) := by
  obtain ⟨_, hl, hc⟩ := World.cells?_some h
  obtain ⟨y0, y1, n, _, _, h0, h1⟩ := Go.ChangeShapes.trod_struct2 Try.underlying55 ht
  match cs, hl with
  | [c0, c1], _ =>
    have e9 : Try.prog.cellsOf 9 = 1 := by kernel_rfl
    simp only [e9, List.drop_zero, List.drop_succ_cons, List.take_succ_cons, List.take_zero] at h0 h1
    obtain ⟨s, hs, _, _⟩ := DataW.trod_string Try.underlying9 h0
    obtain ⟨t, htt, _, _⟩ := DataW.trod_string Try.underlying9 h1
    simp only [List.cons.injEq, and_true] at hs htt
    subst hs htt
    have g0 := hc 0 (by omega)
    have g1 := hc 1 (by omega)
    have e : (a.add (k * 2)).add 0 = a.add (k * 2) := by simp [Addr.add]
    rw [e] at g0
    simp only [List.getElem?_cons_zero, List.getElem?_cons_succ] at g0 g1
    exact ⟨World.cell?_spot g0, World.block_lt_of_cell? w _ g0, ⟨s, t⟩, g0, g1⟩

/-- A slice of labels that came in. -/
theorem labs_open {w : World} {spare : Nat → Bool} {held : Bool} {fuel : Nat} {lv : Value} {x : DataW H × List MemPlace}
    (h : DataW.trod enc Try.prog w 0 spare held fuel 22 [lv] = some x) : ∃ ls, LabsAt (fun _ => True) w lv ls := by
  rcases Go.Deep.open_slice Try.underlying22 h with ⟨hcs, _⟩ | ⟨a, len, cap, m, n, D, Pl, hcs, _, hl, hcap, hm, _, hel⟩
  · simp only [List.cons.injEq, and_true] at hcs
    exact ⟨[], none, 0, hcs, by simp, .inl rfl⟩
  · simp only [List.cons.injEq, and_true] at hcs
    subst hcs
    have hlm : len ≤ m := by rw [hm]; split <;> omega
    rw [cells55] at hel
    have h63 : len ≤ 9223372036854775807 := by unfold maxLen at hcap; omega
    by_cases h0 : len = 0
    · subst h0
      exact ⟨[], some a, cap, rfl, by simp, .inl rfl⟩
    obtain ⟨cs0, hc0, ht0⟩ := hel 0 (by omega)
    obtain ⟨hsp, hblt, _⟩ := lab_at hc0 ht0
    have ea : a.add (0 * 2) = a := by simp [Addr.add]
    rw [ea] at hsp hblt
    obtain ⟨b, off, spot⟩ := a
    simp only [] at hsp hblt
    subst hsp
    obtain ⟨ls, hlen, hits⟩ := list_of noLab (fun i y => w.cell? ⟨b, off + i * 2, none⟩ = some (.string y.n) ∧ w.cell? ⟨b, off + i * 2 + 1, none⟩ = some (.string y.v)) len (fun i hi => by
        obtain ⟨cs, hc, ht⟩ := hel i (by omega)
        obtain ⟨_, _, y, g0, g1⟩ := lab_at hc ht
        rw [add_lit] at g0 g1
        rw [add_lit] at g1
        exact ⟨y, g0, g1⟩)
    refine ⟨ls, _, cap, by rw [hlen], by omega, .inr ⟨b, off, rfl, trivial, hblt, fun i hi => ?_⟩⟩
    have := hits i (by omega)
    simp only [List.getD, List.getElem?_eq_getElem hi, Option.getD_some] at this
    exact this

/-- An entry's numbers fit. -/
structure Ent.Wf (e : Ent) : Prop where
  lo : -9223372036854775808 ≤ e.tm
  hi : e.tm ≤ 9223372036854775807

set_option maxRecDepth 100000 in
theorem ent_open {w : World} {spare : Nat → Bool} {held : Bool} {fuel : Nat} {cs : List Value} (hl : cs.length = 3) {x : DataW H × List MemPlace}
    (ht : DataW.trod enc Try.prog w 0 spare held fuel 24 cs = some x) : ∃ (e : Ent) (lv : Value), cs = [.int .i64 e.tm, lv, .string e.line] ∧ LabsAt (fun _ => True) w lv e.labs ∧ e.Wf := by
  obtain ⟨y0, y1, y2, n, _, _, h0, h1, h2⟩ := Go.Deep.trod_struct3 Try.underlying24 ht
  match cs, hl with
  | [c0, c1, c2], _ =>
    have e3 : Try.prog.cellsOf 3 = 1 := by kernel_rfl
    have e22 : Try.prog.cellsOf 22 = 1 := by kernel_rfl
    have e9 : Try.prog.cellsOf 9 = 1 := by kernel_rfl
    simp only [e3, e22, e9, List.drop_zero, List.drop_succ_cons, List.take_succ_cons, List.take_zero] at h0 h1 h2
    obtain ⟨kd, hk, _, wk⟩ := DataW.trod_int Try.underlying3 h0
    obtain ⟨s, hs, _, ws⟩ := DataW.trod_string Try.underlying9 h2
    obtain ⟨ls, hls⟩ := labs_open h1
    simp only [List.cons.injEq, and_true] at hk hs
    subst hk hs
    have bk := bounds_i64 wk
    exact ⟨⟨kd, ls, s⟩, c1, rfl, hls, ⟨by show -9223372036854775808 ≤ kd; omega, by show kd ≤ 9223372036854775807; omega⟩⟩

/-- An entry that came in. -/
theorem entV_open {w : World} {spare : Nat → Bool} {held : Bool} {fuel : Nat} {v : Value} (hv : ∃ cs : Array Value, v = .agg cs ∧ cs.size = Try.prog.cellsOf 24) {x : DataW H × List MemPlace}
    (ht : DataW.trod enc Try.prog w 0 spare held fuel 24 v.cells.toList = some x) : ∃ (e : Ent) (lv : Value), v = e.val lv ∧ LabsAt (fun _ => True) w lv e.labs ∧ e.Wf := by
  obtain ⟨cs, rfl, hs⟩ := hv
  rw [cells24] at hs
  obtain ⟨e, lv, hcs, h1, h2⟩ := ent_open (cs := cs.toList) (by simpa using hs) ht
  refine ⟨e, lv, ?_, h1, h2⟩
  have : cs = #[.int .i64 e.tm, lv, .string e.line] := Array.toList_inj.1 hcs
  rw [this]
  rfl

theorem ent_at {w : World} {a : Addr} {k fuel : Nat} {spare : Nat → Bool} {held : Bool} {cs : List Value} {x : DataW H × List MemPlace}
    (h : w.cells? 0 (a.add (k * 3)) 3 = some cs) (ht : DataW.trod enc Try.prog w 0 spare held fuel 24 cs = some x) :
    (a.add (k * 3)).spot = none ∧ (a.add (k * 3)).block < w.heap.size ∧ ∃ (e : Ent) (lv : Value), w.cell? (a.add (k * 3)) = some (.int .i64 e.tm) ∧ w.cell? ((a.add (k * 3)).add 1) = some lv ∧ w.cell? ((a.add (k * 3)).add 2) = some (.string e.line) ∧ LabsAt (fun _ => True) w lv e.labs ∧ e.Wf := by
  obtain ⟨_, hl, hc⟩ := World.cells?_some h
  obtain ⟨e, lv, rfl, h1, h2⟩ := ent_open hl ht
  have g0 := hc 0 (by omega)
  have g1 := hc 1 (by omega)
  have g2 := hc 2 (by omega)
  have e0 : (a.add (k * 3)).add 0 = a.add (k * 3) := by simp [Addr.add]
  rw [e0] at g0
  simp only [List.getElem?_cons_zero, List.getElem?_cons_succ] at g0 g1 g2
  exact ⟨World.cell?_spot g0, World.block_lt_of_cell? w _ g0, e, lv, g0, g1, g2, h1, h2⟩

/-- A slice of entries that came in. -/
theorem ents_open {w : World} {spare : Nat → Bool} {held : Bool} {fuel : Nat} {v : Value} {x : DataW H × List MemPlace}
    (h : DataW.trod enc Try.prog w 0 spare held fuel 39 [v] = some x) : ∃ es, EntsAt (fun _ => True) (fun _ => True) w v es ∧ ∀ e ∈ es, e.Wf := by
  rcases Go.Deep.open_slice Try.underlying39 h with ⟨hcs, _⟩ | ⟨a, len, cap, m, n, D, Pl, hcs, _, hl, hcap, hm, _, hel⟩
  · simp only [List.cons.injEq, and_true] at hcs
    exact ⟨[], ⟨none, 0, hcs, by simp, .inl rfl⟩, fun e he => by simp at he⟩
  · simp only [List.cons.injEq, and_true] at hcs
    subst hcs
    have hlm : len ≤ m := by rw [hm]; split <;> omega
    rw [cells24] at hel
    have h63 : len ≤ 9223372036854775807 := by unfold maxLen at hcap; omega
    by_cases h0 : len = 0
    · subst h0
      exact ⟨[], ⟨some a, cap, rfl, by simp, .inl rfl⟩, fun e he => by simp at he⟩
    obtain ⟨cs0, hc0, ht0⟩ := hel 0 (by omega)
    obtain ⟨hsp, hblt, _⟩ := ent_at hc0 ht0
    have ea : a.add (0 * 3) = a := by simp [Addr.add]
    rw [ea] at hsp hblt
    obtain ⟨b, off, spot⟩ := a
    simp only [] at hsp hblt
    subst hsp
    obtain ⟨es, hlen, hits⟩ := list_of (⟨0, [], ⟨#[]⟩⟩ : Ent) (fun i e => ∃ lv, (w.cell? ⟨b, off + i * 3, none⟩ = some (.int .i64 e.tm) ∧ w.cell? ⟨b, off + i * 3 + 1, none⟩ = some lv ∧ w.cell? ⟨b, off + i * 3 + 2, none⟩ = some (.string e.line) ∧ LabsAt (fun _ => True) w lv e.labs) ∧ e.Wf) len (fun i hi => by
        obtain ⟨cs, hc, ht⟩ := hel i (by omega)
        obtain ⟨_, _, e, lv, g0, g1, g2, g3, g4⟩ := ent_at hc ht
        rw [add_lit] at g0 g1 g2
        rw [add_lit] at g1 g2
        exact ⟨e, lv, ⟨g0, g1, g2, g3⟩, g4⟩)
    have hget : ∀ i (hi : i < es.length), es.getD i ⟨0, [], ⟨#[]⟩⟩ = es[i] := fun i hi => by simp [List.getD, hi]
    refine ⟨es, ⟨_, cap, by rw [hlen], by omega, .inr ⟨b, off, rfl, trivial, hblt, fun i hi => ?_⟩⟩, fun e he => ?_⟩
    · obtain ⟨lv, h1, _⟩ := hits i (by omega)
      rw [hget i hi] at h1
      exact ⟨lv, h1⟩
    · obtain ⟨i, hi, rfl⟩ := List.getElem_of_mem he
      obtain ⟨lv, _, h2⟩ := hits i (by omega)
      rw [hget i hi] at h2
      exact h2

end Go.Proofs.Ytgcldnojmdabpaa
