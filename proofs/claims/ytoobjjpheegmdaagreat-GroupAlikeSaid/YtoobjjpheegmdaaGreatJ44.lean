/-
  Op13.
-/
import Derived.Test.YtoobjjpheegmdaaGreatJ43
import Derived.Test.YtoobjjpheegmdaaGreatJ07
namespace Go.Proofs.YtoobjjpheegmdaaGreat.E4
open Go.RowKit Go
variable {H : Type} {enc : TypeId × Value → H}
theorem cells31 : Tryz.prog.cellsOf 38 = 4 := by kernel_rfl
set_option maxRecDepth 100000 in
theorem mark_open {w : World} {spare : Nat → Bool} {held : Bool} {fuel : Nat} {v : Value} (hv : ∃ cs : Array Value, v = .agg cs ∧ cs.size = Tryz.prog.cellsOf 38) {x : DataW H × List MemPlace}
    (ht : DataW.trod enc Tryz.prog w 0 spare held fuel 38 v.cells.toList = some x) : ∃ (has : Bool) (e : Ent) (lv : Value), v = mkV has e lv ∧ LabsAt (fun _ => True) w lv e.labs := by
  obtain ⟨cs, rfl, hs⟩ := hv
  rw [cells31] at hs
  obtain ⟨y0, y1, n, _, _, h0, h1⟩ := Go.ChangeShapes.trod_struct2 Tryz.underlying38 ht
  obtain ⟨l, hl, rfl⟩ : ∃ l : List Value, l.length = 4 ∧ cs = l.toArray := ⟨cs.toList, by simpa using hs, by simp⟩
  match l, hl with
  | [c0, c1, c2, c3], _ =>
    have e4 : Tryz.prog.cellsOf 4 = 1 := by kernel_rfl
    have e26 : Tryz.prog.cellsOf 32 = 3 := by kernel_rfl
    simp only [Value.cells, e4, e26, List.drop_zero, List.drop_succ_cons, List.take_succ_cons, List.take_zero] at h0 h1
    obtain ⟨b, hb, _⟩ := DataW.trod_bool Tryz.underlying4 h0
    obtain ⟨e, lv, hcs, hlab, _⟩ := ent_open (cs := [c1, c2, c3]) rfl h1
    simp only [List.cons.injEq, and_true] at hb hcs
    obtain ⟨rfl, rfl, rfl⟩ := hcs
    subst hb
    exact ⟨b, e, _, rfl, hlab⟩
def SlOK (v : Value) : Prop := v = .slice none 0 0 ∨ ∃ a n c, v = .slice (some a) n c ∧ n ≤ c
theorem slice_ok {w : World} {spare : Nat → Bool} {held : Bool} {fuel : Nat} {t e : TypeId} {v : Value} {x : DataW H × List MemPlace} (ht : Tryz.prog.underlying t = some (.slice e))
    (h : DataW.trod enc Tryz.prog w 0 spare held fuel t [v] = some x) : SlOK v := by
  rcases Go.Deep.open_slice ht h with ⟨hcs, _⟩ | ⟨a, len, cap, m, n, D, Pl, hcs, _, hl, _⟩
  · simp only [List.cons.injEq, and_true] at hcs
    exact .inl hcs
  · simp only [List.cons.injEq, and_true] at hcs
    exact .inr ⟨a, len, cap, hcs, hl⟩
set_option maxRecDepth 100000 in
theorem ask_open13 {w : World} {spare : Nat → Bool} {held : Bool} {fuel : Nat} {v : Value} (hv : ∃ cs : Array Value, v = .agg cs ∧ cs.size = Tryz.prog.cellsOf 36) {x : DataW H × List MemPlace}
    (ht : DataW.trod enc Tryz.prog w 0 spare held fuel 36 v.cells.toList = some x) : ∃ (a : Ask) (av mv : Value), v = .agg (a.cells av mv) ∧ TextsAt w av a.all ∧ MsAt w mv a.mat ∧ SlOK av := by
  obtain ⟨cs, rfl, hs⟩ := hv
  rw [cellsK12] at hs
  obtain ⟨y0, y1, y2, y3, y4, n, h0, h1, h2, h3, h4⟩ := trod_struct5 Tryz.underlying36 ht
  obtain ⟨l, hl, rfl⟩ : ∃ l : List Value, l.length = 5 ∧ cs = l.toArray := ⟨cs.toList, by simpa using hs, by simp⟩
  match l, hl with
  | [c0, c1, c2, c3, c4], _ =>
    have ei : Tryz.prog.cellsOf 3 = 1 := by kernel_rfl
    have ea : Tryz.prog.cellsOf 33 = 1 := by kernel_rfl
    have em : Tryz.prog.cellsOf 34 = 1 := by kernel_rfl
    simp only [Value.cells, ei, ea, em, List.drop_zero, List.drop_succ_cons, List.take_succ_cons, List.take_zero] at h0 h1 h2 h3 h4
    obtain ⟨kd, e0, _, _⟩ := DataW.trod_int Tryz.underlying3 h0
    obtain ⟨src, e1, _, _⟩ := DataW.trod_int Tryz.underlying3 h1
    obtain ⟨til, e2, _, _⟩ := DataW.trod_int Tryz.underlying3 h2
    obtain ⟨all, ha⟩ := texts_open h3
    obtain ⟨mat, hm⟩ := mts_open h4
    simp only [List.cons.injEq, and_true] at e0 e1 e2
    subst e0 e1 e2
    exact ⟨⟨kd, src, til, all, mat⟩, c3, c4, rfl, ha, hm, slice_ok Tryz.underlying33 h3⟩
end Go.Proofs.YtoobjjpheegmdaaGreat.E4
