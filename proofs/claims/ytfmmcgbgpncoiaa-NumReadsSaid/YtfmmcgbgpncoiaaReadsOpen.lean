/-
  THE SLICE OF ASKS THAT CAME IN, opened.
-/
import Derived.Test.YtfmmcgbgpncoiaaReadsWalk
import Derived.Test.YtfmmcgbgpncoiaaOpen
namespace Go.Proofs.Ytfmmcgbgpncoiaa
open Go.RowKit Go

theorem cells44 : Try.prog.cellsOf 44 = 2 := by kernel_rfl

variable {H : Type} {enc : TypeId × Value → H}

/-- One ask's cells. -/
theorem ask_at {w : World} {a : Addr} {k fuel : Nat} {spare : Nat → Bool} {held : Bool} {cs : List Value} {x : DataW H × List MemPlace}
    (h : w.cells? 0 (a.add (k * 2)) 2 = some cs) (ht : DataW.trod enc Try.prog w 0 spare held fuel 44 cs = some x) :
    (a.add (k * 2)).spot = none ∧ (a.add (k * 2)).block < w.heap.size ∧ ∃ y : Ak, w.cell? (a.add (k * 2)) = some (.int .i64 y.kind) ∧ w.cell? ((a.add (k * 2)).add 1) = some (.int .u64 y.n) := by
  obtain ⟨_, hl, hc⟩ := World.cells?_some h
  obtain ⟨y0, y1, n, _, _, h0, h1⟩ := Go.ChangeShapes.trod_struct2 Try.underlying44 ht
  match cs, hl with
  | [c0, c1], _ =>
    have e3 : Try.prog.cellsOf 3 = 1 := by kernel_rfl
    have e22 : Try.prog.cellsOf 22 = 1 := by kernel_rfl
    simp only [e3, e22, List.drop_zero, List.drop_succ_cons, List.take_succ_cons, List.take_zero] at h0 h1
    obtain ⟨kd, hk, _, wk⟩ := DataW.trod_int Try.underlying3 h0
    obtain ⟨m, hm, _, wm⟩ := DataW.trod_int Try.underlying22 h1
    simp only [List.cons.injEq, and_true] at hk hm
    subst hk hm
    have g0 := hc 0 (by omega)
    have g1 := hc 1 (by omega)
    have e : (a.add (k * 2)).add 0 = a.add (k * 2) := by simp [Addr.add]
    rw [e] at g0
    simp only [List.getElem?_cons_zero, List.getElem?_cons_succ] at g0 g1
    have bm := bounds_u64 wm
    have hsp := World.cell?_spot g0
    have hlt := World.block_lt_of_cell? w _ g0
    have em : (m.toNat : Int) = m := by omega
    exact ⟨hsp, hlt, ⟨kd, m.toNat⟩, g0, by rw [g1, ← em]; rfl⟩

/-- The slice of asks that came in: it has none, or they lie in cells. -/
theorem asks_open {w : World} {spare : Nat → Bool} {held : Bool} {fuel : Nat} {a0 : Option Addr} {len cap : Nat} {x : DataW H × List MemPlace}
    (h : DataW.trod enc Try.prog w 0 spare held fuel 35 [.slice a0 len cap] = some x) : len = 0 ∨ ∃ b off its, a0 = some ⟨b, off, none⟩ ∧ its.length = len ∧ AsksAt w b off its := by
  rcases Go.Deep.open_slice Try.underlying35 h with ⟨hcs, _⟩ | ⟨a, len', cap', m, n, D, Pl, hcs, _, hl, _, hm, _, hel⟩
  · simp only [List.cons.injEq, Value.slice.injEq, and_true] at hcs
    exact .inl hcs.2.1
  · simp only [List.cons.injEq, Value.slice.injEq, and_true] at hcs
    obtain ⟨rfl, rfl, rfl⟩ := hcs
    have hlm : len ≤ m := by rw [hm]; split <;> omega
    rw [cells44] at hel
    by_cases h0 : len = 0
    · exact .inl h0
    refine .inr ?_
    have at0 := hel 0 (by omega)
    obtain ⟨cs0, hc0, ht0⟩ := at0
    obtain ⟨hsp, hblt, _⟩ := ask_at hc0 ht0
    have ea : a.add (0 * 2) = a := by simp [Addr.add]
    rw [ea] at hsp hblt
    obtain ⟨b, off, spot⟩ := a
    simp only [] at hsp hblt
    subst hsp
    obtain ⟨its, hlen, hits⟩ := list_of (⟨0, 0⟩ : Ak) (fun i y => w.cell? ⟨b, off + i * 2, none⟩ = some (.int .i64 y.kind) ∧ w.cell? ⟨b, off + i * 2 + 1, none⟩ = some (.int .u64 y.n)) len (fun i hi => by
        obtain ⟨cs, hc, ht⟩ := hel i (by omega)
        obtain ⟨_, _, y, g0, g1⟩ := ask_at hc ht
        rw [add_lit] at g0 g1
        rw [add_lit] at g1
        exact ⟨y, g0, g1⟩)
    exact ⟨b, off, its, rfl, hlen, ⟨hblt, fun i hi => (hits i (hlen ▸ hi)).1, fun i hi => (hits i (hlen ▸ hi)).2⟩⟩

end Go.Proofs.Ytfmmcgbgpncoiaa
