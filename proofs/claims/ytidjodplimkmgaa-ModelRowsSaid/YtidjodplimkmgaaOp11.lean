/-
  ROWS OF ENTRIES (AND A MARK) THAT CAME IN, opened.
-/
import Derived.Test.YtidjodplimkmgaaCt11
import Derived.Test.YtidjodplimkmgaaOi7
namespace Go.Proofs.Ytidjodplimkmgaa.E4
open Go.RowKit Go

theorem cells33 : Try.prog.cellsOf 33 = 1 := by kernel_rfl

variable {H : Type} {enc : TypeId × Value → H}

/-- Rows of entries that came in. -/
theorem rows_open {w : World} {spare : Nat → Bool} {held : Bool} {fuel : Nat} {v : Value} {x : DataW H × List MemPlace}
    (h : DataW.trod enc Try.prog w 0 spare held fuel 23 [v] = some x) : ∃ rows, RowsAt w v rows := by
  rcases Go.Deep.open_slice1 Try.underlying23 cells33 h with ⟨hcs, _⟩ | ⟨a, len, cap, m, n, V, D, Pl, hcs, _, hl, hcap, hm, _, hel⟩
  · simp only [List.cons.injEq, and_true] at hcs
    exact ⟨[], none, 0, hcs, by simp, .inl rfl⟩
  · simp only [List.cons.injEq, and_true] at hcs
    subst hcs
    have hlm : len ≤ m := by rw [hm]; split <;> omega
    have h63 : len ≤ 9223372036854775807 := by unfold maxLen at hcap; omega
    by_cases h0 : len = 0
    · subst h0
      exact ⟨[], some a, cap, rfl, by simp, .inl rfl⟩
    obtain ⟨hc0, _⟩ := hel 0 (by omega)
    have ea : a.add 0 = a := by simp [Addr.add]
    rw [ea] at hc0
    have hsp := World.cell?_spot hc0
    have hblt := World.block_lt_of_cell? w _ hc0
    obtain ⟨b, off, spot⟩ := a
    simp only [] at hsp hblt
    subst hsp
    obtain ⟨l, hlen, hits⟩ := Ytidjodplimkmgaa.list_of ([] : List Ent) (fun i y => ∃ rv, w.cell? ⟨b, off + i, none⟩ = some rv ∧ EntsAt (fun _ => True) (fun _ => True) w rv y) len (fun i hi => by
        obtain ⟨hc, ht⟩ := hel i (by omega)
        obtain ⟨es, hes, _⟩ := ents_open ht
        rw [add_lit] at hc
        exact ⟨es, _, hc, hes⟩)
    exact ⟨l, _, cap, by rw [hlen], by omega, .inr ⟨b, off, rfl, hblt, hits⟩⟩

end Go.Proofs.Ytidjodplimkmgaa.E4
