/-
  Op12.
-/
import Derived.Test.YtoobjjpheegmdaaGreatJ09
namespace Go.Proofs.YtoobjjpheegmdaaGreat.E4
open Go.RowKit Go
variable {H : Type} {enc : TypeId × Value → H}
theorem cellsS12 : Tryz.prog.cellsOf 9 = 1 := by kernel_rfl
theorem cellsR12 : Tryz.prog.cellsOf 87 = 1 := by kernel_rfl
theorem cellsM12 : Tryz.prog.cellsOf 89 = 3 := by kernel_rfl
theorem cellsK12 : Tryz.prog.cellsOf 36 = 5 := by kernel_rfl
theorem trod_struct5 {P : Program} {w : World} {base : Nat} {spare : Nat → Bool} {held : Bool} {t : TypeId} {f0 f1 f2 f3 f4 : Field} {fuel : Nat} {cs : List Value} {x : DataW H × List MemPlace} (ht : P.underlying t = some (.struct #[f0, f1, f2, f3, f4])) (h : DataW.trod enc P w base spare held fuel t cs = some x) :
    ∃ y0 y1 y2 y3 y4 n, DataW.trod enc P w base spare held n f0.type ((cs.drop f0.offset).take (P.cellsOf f0.type)) = some y0 ∧
      DataW.trod enc P w base spare held n f1.type ((cs.drop f1.offset).take (P.cellsOf f1.type)) = some y1 ∧ DataW.trod enc P w base spare held n f2.type ((cs.drop f2.offset).take (P.cellsOf f2.type)) = some y2 ∧
      DataW.trod enc P w base spare held n f3.type ((cs.drop f3.offset).take (P.cellsOf f3.type)) = some y3 ∧ DataW.trod enc P w base spare held n f4.type ((cs.drop f4.offset).take (P.cellsOf f4.type)) = some y4 := by
  obtain ⟨xs, n, _, rfl, hl, hlen, hf⟩ := DataW.trod_struct ht h
  match xs, hlen with
  | [y0, y1, y2, y3, y4], _ => exact ⟨y0, y1, y2, y3, y4, n, by simpa using hf 0 f0 rfl, by simpa using hf 1 f1 rfl, by simpa using hf 2 f2 rfl, by simpa using hf 3 f3 rfl, by simpa using hf 4 f4 rfl⟩
theorem strs_open {w : World} {spare : Nat → Bool} {held : Bool} {fuel : Nat} {v : Value} {x : DataW H × List MemPlace}
    (h : DataW.trod enc Tryz.prog w 0 spare held fuel 87 [v] = some x) : ∃ l, StrsAt w v l := by
  rcases Go.Deep.open_slice1 Tryz.underlying87 cellsS12 h with ⟨hcs, _⟩ | ⟨a, len, cap, m, n, V, D, Pl, hcs, _, hl, hcap, hm, _, hel⟩
  · simp only [List.cons.injEq, and_true] at hcs
    exact ⟨[], none, 0, hcs, by simp, .inl rfl⟩
  · simp only [List.cons.injEq, and_true] at hcs
    subst hcs
    have hlm : len ≤ m := by rw [hm]; split <;> omega
    have h63 : len ≤ 9223372036854775807 := by unfold maxLen at hcap; omega
    by_cases h0 : len = 0
    · subst h0
      exact ⟨[], some a, cap, rfl, by simp, .inl rfl⟩
    obtain ⟨hc0, _⟩ := hel 0 (by omega)
    have ea : a.add 0 = a := by simp [Addr.add]
    rw [ea] at hc0
    have hsp := World.cell?_spot hc0
    have hblt := World.block_lt_of_cell? w _ hc0
    obtain ⟨b, off, spot⟩ := a
    simp only [] at hsp hblt
    subst hsp
    obtain ⟨l, hlen, hits⟩ := list_of ByteArray.empty (fun i y => w.cell? ⟨b, off + i, none⟩ = some (.string y)) len (fun i hi => by
        obtain ⟨hc, ht⟩ := hel i (by omega)
        obtain ⟨s, hs, _, _⟩ := DataW.trod_string Tryz.underlying9 ht
        simp only [List.cons.injEq, and_true] at hs
        rw [hs, add_lit] at hc
        exact ⟨s, hc⟩)
    refine ⟨l, _, cap, by rw [hlen], by omega, .inr ⟨b, off, rfl, hblt, fun i hi => ?_⟩⟩
    have := hits i (by omega)
    simp only [List.getD, List.getElem?_eq_getElem hi, Option.getD_some] at this
    exact this
theorem texts_open {w : World} {spare : Nat → Bool} {held : Bool} {fuel : Nat} {v : Value} {x : DataW H × List MemPlace}
    (h : DataW.trod enc Tryz.prog w 0 spare held fuel 33 [v] = some x) : ∃ ls, TextsAt w v ls := by
  rcases Go.Deep.open_slice1 Tryz.underlying33 cellsR12 h with ⟨hcs, _⟩ | ⟨a, len, cap, m, n, V, D, Pl, hcs, _, hl, hcap, hm, _, hel⟩
  · simp only [List.cons.injEq, and_true] at hcs
    exact ⟨[], none, 0, hcs, by simp, .inl rfl⟩
  · simp only [List.cons.injEq, and_true] at hcs
    subst hcs
    have hlm : len ≤ m := by rw [hm]; split <;> omega
    have h63 : len ≤ 9223372036854775807 := by unfold maxLen at hcap; omega
    by_cases h0 : len = 0
    · subst h0
      exact ⟨[], some a, cap, rfl, by simp, .inl rfl⟩
    obtain ⟨hc0, _⟩ := hel 0 (by omega)
    have ea : a.add 0 = a := by simp [Addr.add]
    rw [ea] at hc0
    have hsp := World.cell?_spot hc0
    have hblt := World.block_lt_of_cell? w _ hc0
    obtain ⟨b, off, spot⟩ := a
    simp only [] at hsp hblt
    subst hsp
    obtain ⟨l, hlen, hits⟩ := list_of ([] : List ByteArray) (fun i y => ∃ rv, w.cell? ⟨b, off + i, none⟩ = some rv ∧ StrsAt w rv y) len (fun i hi => by
        obtain ⟨hc, ht⟩ := hel i (by omega)
        obtain ⟨es, hes⟩ := strs_open ht
        rw [add_lit] at hc
        exact ⟨es, _, hc, hes⟩)
    refine ⟨l, _, cap, by rw [hlen], by omega, .inr ⟨b, off, rfl, hblt, fun i hi => ?_⟩⟩
    have := hits i (by omega)
    simp only [List.getD, List.getElem?_eq_getElem hi, Option.getD_some] at this
    exact this
set_option maxRecDepth 100000 in
theorem mt_open {w : World} {spare : Nat → Bool} {held : Bool} {fuel : Nat} {cs : List Value} (hl : cs.length = 3) {x : DataW H × List MemPlace}
    (ht : DataW.trod enc Tryz.prog w 0 spare held fuel 89 cs = some x) : ∃ m : Mt, cs = [.string m.name, .bool m.not, .string m.value] := by
  obtain ⟨y0, y1, y2, n, _, _, h0, h1, h2⟩ := Go.Deep.trod_struct3 Tryz.underlying89 ht
  match cs, hl with
  | [c0, c1, c2], _ =>
    have eb : Tryz.prog.cellsOf 4 = 1 := by kernel_rfl
    simp only [cellsS12, eb, List.drop_zero, List.drop_succ_cons, List.take_succ_cons, List.take_zero] at h0 h1 h2
    obtain ⟨s, hs, _, _⟩ := DataW.trod_string Tryz.underlying9 h0
    obtain ⟨b, hb, _⟩ := DataW.trod_bool Tryz.underlying4 h1
    obtain ⟨t, htt, _, _⟩ := DataW.trod_string Tryz.underlying9 h2
    simp only [List.cons.injEq, and_true] at hs hb htt
    subst hs hb htt
    exact ⟨⟨s, b, t⟩, rfl⟩
theorem mt_at {w : World} {a : Addr} {k fuel : Nat} {spare : Nat → Bool} {held : Bool} {cs : List Value} {x : DataW H × List MemPlace}
    (h : w.cells? 0 (a.add (k * 3)) 3 = some cs) (ht : DataW.trod enc Tryz.prog w 0 spare held fuel 89 cs = some x) :
    (a.add (k * 3)).spot = none ∧ (a.add (k * 3)).block < w.heap.size ∧ ∃ y : Mt, w.cell? (a.add (k * 3)) = some (.string y.name) ∧ w.cell? ((a.add (k * 3)).add 1) = some (.bool y.not) ∧ w.cell? ((a.add (k * 3)).add 2) = some (.string y.value) := by
  obtain ⟨_, hl, hc⟩ := World.cells?_some h
  obtain ⟨m, hcs⟩ := mt_open hl ht
  subst hcs
  have g0 := hc 0 (by omega)
  have g1 := hc 1 (by omega)
  have g2 := hc 2 (by omega)
  have e : (a.add (k * 3)).add 0 = a.add (k * 3) := by simp [Addr.add]
  rw [e] at g0
  simp only [List.getElem?_cons_zero, List.getElem?_cons_succ] at g0 g1 g2
  exact ⟨World.cell?_spot g0, World.block_lt_of_cell? w _ g0, m, g0, g1, g2⟩
theorem mts_open {w : World} {spare : Nat → Bool} {held : Bool} {fuel : Nat} {v : Value} {x : DataW H × List MemPlace}
    (h : DataW.trod enc Tryz.prog w 0 spare held fuel 34 [v] = some x) : ∃ l, MsAt w v l := by
  rcases Go.Deep.open_slice Tryz.underlying34 h with ⟨hcs, _⟩ | ⟨a, len, cap, m, n, D, Pl, hcs, _, hl, hcap, hm, _, hel⟩
  · simp only [List.cons.injEq, and_true] at hcs
    exact ⟨[], none, 0, hcs, by simp, .inl rfl⟩
  · simp only [List.cons.injEq, and_true] at hcs
    subst hcs
    have hlm : len ≤ m := by rw [hm]; split <;> omega
    rw [cellsM12] at hel
    have h63 : len ≤ 9223372036854775807 := by unfold maxLen at hcap; omega
    by_cases h0 : len = 0
    · subst h0
      exact ⟨[], some a, cap, rfl, by simp, .inl rfl⟩
    obtain ⟨cs0, hc0, ht0⟩ := hel 0 (by omega)
    obtain ⟨hsp, hblt, _⟩ := mt_at hc0 ht0
    have ea : a.add (0 * 3) = a := by simp [Addr.add]
    rw [ea] at hsp hblt
    obtain ⟨b, off, spot⟩ := a
    simp only [] at hsp hblt
    subst hsp
    obtain ⟨ls, hlen, hits⟩ := list_of (⟨ByteArray.empty, false, ByteArray.empty⟩ : Mt) (fun i y => w.cell? ⟨b, off + i * 3, none⟩ = some (.string y.name) ∧ w.cell? ⟨b, off + i * 3 + 1, none⟩ = some (.bool y.not) ∧ w.cell? ⟨b, off + i * 3 + 2, none⟩ = some (.string y.value)) len (fun i hi => by
        obtain ⟨cs, hc, ht⟩ := hel i (by omega)
        obtain ⟨_, _, y, g0, g1, g2⟩ := mt_at hc ht
        rw [add_lit] at g0 g1 g2
        rw [add_lit] at g1 g2
        exact ⟨y, g0, g1, g2⟩)
    refine ⟨ls, _, cap, by rw [hlen], by omega, .inr ⟨b, off, rfl, hblt, fun i hi => ?_⟩⟩
    have := hits i (by omega)
    simp only [List.getD, List.getElem?_eq_getElem hi, Option.getD_some] at this
    exact this
end Go.Proofs.YtoobjjpheegmdaaGreat.E4
