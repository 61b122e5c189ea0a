/-
  ROWS OF ENTRIES (AND A MARK) THAT CAME IN, opened.
-/
import Derived.Test.YtidjodplimkmgaaDoorCt11
import Derived.Test.YtidjodplimkmgaaDoorOi7
namespace Go.Proofs.YtidjodplimkmgaaDoor.E4
open Go.RowKit Go

theorem cells39 : Tryd.prog.cellsOf 39 = 1 := by kernel_rfl

variable {H : Type} {enc : TypeId × Value → H}

/-- Rows of entries that came in. -/
theorem rows_open {w : World} {spare : Nat → Bool} {held : Bool} {fuel : Nat} {v : Value} {x : DataW H × List MemPlace}
    (h : DataW.trod enc Tryd.prog w 0 spare held fuel 23 [v] = some x) : ∃ rows, RowsAt w v rows := by
  rcases Go.Deep.open_slice1 Tryd.underlying23 cells39 h with ⟨hcs, _⟩ | ⟨a, len, cap, m, n, V, D, Pl, hcs, _, hl, hcap, hm, _, hel⟩
  · simp only [List.cons.injEq, and_true] at hcs
    exact ⟨[], none, 0, hcs, by simp, .inl rfl⟩
  · simp only [List.cons.injEq, and_true] at hcs
    subst hcs
    have hlm : len ≤ m := by rw [hm]; split <;> omega
    have h63 : len ≤ 9223372036854775807 := by unfold maxLen at hcap; omega
    by_cases h0 : len = 0
    · subst h0
      exact ⟨[], some a, cap, rfl, by simp, .inl rfl⟩
    obtain ⟨hc0, _⟩ := hel 0 (by omega)
    have ea : a.add 0 = a := by simp [Addr.add]
    rw [ea] at hc0
    have hsp := World.cell?_spot hc0
    have hblt := World.block_lt_of_cell? w _ hc0
    obtain ⟨b, off, spot⟩ := a
    simp only [] at hsp hblt
    subst hsp
    obtain ⟨l, hlen, hits⟩ := YtidjodplimkmgaaDoor.list_of ([] : List Ent) (fun i y => ∃ rv, w.cell? ⟨b, off + i, none⟩ = some rv ∧ EntsAt (fun _ => True) (fun _ => True) w rv y) len (fun i hi => by
        obtain ⟨hc, ht⟩ := hel i (by omega)
        obtain ⟨es, hes, _⟩ := ents_open ht
        rw [add_lit] at hc
        exact ⟨es, _, hc, hes⟩)
    exact ⟨l, _, cap, by rw [hlen], by omega, .inr ⟨b, off, rfl, hblt, hits⟩⟩

theorem cells28 : Tryd.prog.cellsOf 28 = 4 := by kernel_rfl

set_option maxRecDepth 100000 in
/-- A mark that came in. -/
theorem mark_open {w : World} {spare : Nat → Bool} {held : Bool} {fuel : Nat} {v : Value} (hv : ∃ cs : Array Value, v = .agg cs ∧ cs.size = Tryd.prog.cellsOf 28) {x : DataW H × List MemPlace}
    (ht : DataW.trod enc Tryd.prog w 0 spare held fuel 28 v.cells.toList = some x) : ∃ (has : Bool) (e : Ent) (lv : Value), v = mkV has e lv ∧ LabsAt (fun _ => True) w lv e.labs := by
  obtain ⟨cs, rfl, hs⟩ := hv
  rw [cells28] at hs
  obtain ⟨y0, y1, n, _, _, h0, h1⟩ := Go.ChangeShapes.trod_struct2 Tryd.underlying28 ht
  obtain ⟨l, hl, rfl⟩ : ∃ l : List Value, l.length = 4 ∧ cs = l.toArray := ⟨cs.toList, by simpa using hs, by simp⟩
  match l, hl with
  | [c0, c1, c2, c3], _ =>
    have e4 : Tryd.prog.cellsOf 4 = 1 := by kernel_rfl
    have e26 : Tryd.prog.cellsOf 26 = 3 := by kernel_rfl
    simp only [Value.cells, e4, e26, List.drop_zero, List.drop_succ_cons, List.take_succ_cons, List.take_zero] at h0 h1
    obtain ⟨b, hb, _⟩ := DataW.trod_bool Tryd.underlying4 h0
    obtain ⟨e, lv, hcs, hlab, _⟩ := ent_open (cs := [c1, c2, c3]) rfl h1
    simp only [List.cons.injEq, and_true] at hb hcs
    obtain ⟨rfl, rfl, rfl⟩ := hcs
    subst hb
    exact ⟨b, e, _, rfl, hlab⟩

end Go.Proofs.YtidjodplimkmgaaDoor.E4
