/-
  NUMBERS, AND FILTERS, THAT CAME IN, opened.
-/
import Derived.Test.YtgmahdeaggjjgaaLawF6
import Derived.Deep.Slices
import Derived.Deep.Strs
import Derived.Lib.SmallJoins
import Derived.ProofKit
namespace Go.Proofs.Ytgmahdeaggjjgaa
open Go.RowKit Go

theorem add_lit (b off k : Nat) : (⟨b, off, none⟩ : Addr).add k = ⟨b, off + k, none⟩ := by
  unfold Addr.add
  split
  · rename_i h; subst h; rfl
  · rfl

theorem list_of {α : Type} (d : α) (p : Nat → α → Prop) : ∀ (n : Nat), (∀ i, i < n → ∃ x, p i x) → ∃ l : List α, l.length = n ∧ ∀ i (h : i < l.length), p i l[i]
  | 0, _ => ⟨[], rfl, fun i h => by simp at h⟩
  | n + 1, h => by
    obtain ⟨l, hl, hp⟩ := list_of d p n (fun i hi => h i (by omega))
    obtain ⟨x, hx⟩ := h n (by omega)
    refine ⟨l ++ [x], by simp [hl], fun i hi => ?_⟩
    rcases Nat.lt_or_ge i n with hlt | hge
    · have := hp i (hl ▸ hlt)
      rwa [List.getElem_append_left (hl ▸ hlt)]
    · obtain rfl : i = n := by simp [hl] at hi; omega
      subst hl
      rw [List.getElem_append_right (Nat.le_refl _)]
      simpa using hx

theorem calls_below {f : Nat} {args : Array Value} {w : World} (h : Calls Try.prog f args w fun e w' => e = .returned (.bool true) ∧ Lay w w') : Calls Try.prog f args w fun e w' => e = .returned (.bool true) ∧ Below w.heap.size w w' :=
  h.mono fun _ _ h => ⟨h.1, h.2.below⟩

theorem cells3 : Try.prog.cellsOf 3 = 1 := by kernel_rfl
theorem cells9 : Try.prog.cellsOf 9 = 1 := by kernel_rfl
theorem cells24 : Try.prog.cellsOf 24 = 1 := by kernel_rfl
theorem cells26 : Try.prog.cellsOf 26 = 4 := by kernel_rfl

variable {H : Type} {enc : TypeId × Value → H}

/-- The slice of numbers that came in. -/
theorem ints_open {w : World} {spare : Nat → Bool} {held : Bool} {fuel : Nat} {v : Value} {x : DataW H × List MemPlace}
    (h : DataW.trod enc Try.prog w 0 spare held fuel 22 [v] = some x) : ∃ l, IntsAt w v l := by
  rcases Go.Deep.open_slice1 Try.underlying22 cells3 h with ⟨hcs, _⟩ | ⟨a, len, cap, m, n, V, D, Pl, hcs, _, hl, hcap, hm, _, hel⟩
  · simp only [List.cons.injEq, and_true] at hcs
    exact ⟨[], none, 0, hcs, by simp, .inl rfl⟩
  · simp only [List.cons.injEq, and_true] at hcs
    subst hcs
    have hlm : len ≤ m := by rw [hm]; split <;> omega
    have h63 : len ≤ 9223372036854775807 := by unfold maxLen at hcap; omega
    by_cases h0 : len = 0
    · subst h0
      exact ⟨[], some a, cap, rfl, by simp, .inl rfl⟩
    obtain ⟨hc0, _⟩ := hel 0 (by omega)
    have ea : a.add 0 = a := by simp [Addr.add]
    rw [ea] at hc0
    have hsp := World.cell?_spot hc0
    have hblt := World.block_lt_of_cell? w _ hc0
    obtain ⟨b, off, spot⟩ := a
    simp only [] at hsp hblt
    subst hsp
    obtain ⟨l, hlen, hits⟩ := list_of (0 : Int) (fun i y => w.cell? ⟨b, off + i, none⟩ = some (.int .i64 y)) len (fun i hi => by
        obtain ⟨hc, ht⟩ := hel i (by omega)
        obtain ⟨kd, hk, _, _⟩ := DataW.trod_int Try.underlying3 ht
        simp only [List.cons.injEq, and_true] at hk
        rw [hk, add_lit] at hc
        exact ⟨kd, hc⟩)
    exact ⟨l, _, cap, by rw [hlen], by omega, .inr ⟨b, off, rfl, hblt, hits⟩⟩

/-- A struct of four parts, with what fuel is left. -/
theorem struct4_fuel {P : Program} {w : World} {base : Nat} {spare : Nat → Bool} {held : Bool} {t : TypeId} {f0 f1 f2 f3 : Field} {fuel : Nat} {cs : List Value} {x : DataW H × List MemPlace} (ht : P.underlying t = some (.struct #[f0, f1, f2, f3])) (h : DataW.trod enc P w base spare held fuel t cs = some x) :
    ∃ y0 y1 y2 y3 n, fuel = n + 1 ∧ DataW.trod enc P w base spare held n f0.type ((cs.drop f0.offset).take (P.cellsOf f0.type)) = some y0 ∧ DataW.trod enc P w base spare held n f1.type ((cs.drop f1.offset).take (P.cellsOf f1.type)) = some y1 ∧
      DataW.trod enc P w base spare held n f2.type ((cs.drop f2.offset).take (P.cellsOf f2.type)) = some y2 ∧ DataW.trod enc P w base spare held n f3.type ((cs.drop f3.offset).take (P.cellsOf f3.type)) = some y3 := by
  obtain ⟨xs, n, hf, _, _, hlen, hx⟩ := DataW.trod_struct ht h
  match xs, hlen with
  | [y0, y1, y2, y3], _ => exact ⟨y0, y1, y2, y3, n, hf, by simpa using hx 0 f0 rfl, by simpa using hx 1 f1 rfl, by simpa using hx 2 f2 rfl, by simpa using hx 3 f3 rfl⟩

set_option maxRecDepth 100000 in
/-- One filter's cells. -/
theorem filt_cells {w : World} {spare : Nat → Bool} {held : Bool} {fuel : Nat} {cs : List Value} (hl : cs.length = 4) {x : DataW H × List MemPlace}
    (h : DataW.trod enc Try.prog w 0 spare held fuel 26 cs = some x) : ∃ (o : Int) (n t : ByteArray) (kv : Value) (m : Nat) (y : DataW H × List MemPlace), fuel = m + 1 ∧ cs = [.int .i64 o, .string n, .string t, kv] ∧ DataW.trod enc Try.prog w 0 spare held m 24 [kv] = some y := by
  obtain ⟨y0, y1, y2, y3, n, rfl, h0, h1, h2, h3⟩ := struct4_fuel Try.underlying26 h
  match cs, hl with
  | [c0, c1, c2, c3], _ =>
    simp only [cells3, cells9, cells24, List.drop_zero, List.drop_succ_cons, List.take_succ_cons, List.take_zero] at h0 h1 h2 h3
    obtain ⟨o, ho, _, _⟩ := DataW.trod_int Try.underlying3 h0
    obtain ⟨s, hs, _, _⟩ := DataW.trod_string Try.underlying9 h1
    obtain ⟨t, ht, _, _⟩ := DataW.trod_string Try.underlying9 h2
    simp only [List.cons.injEq, and_true] at ho hs ht
    exact ⟨o, s, t, c3, n, y3, rfl, by rw [ho, hs, ht], h3⟩

/-- A slice of filters that came in. -/
theorem kids_open {w : World} {spare : Nat → Bool} {held : Bool} : ∀ (N fuel : Nat), fuel ≤ N → ∀ (kv : Value) (x : DataW H × List MemPlace),
    DataW.trod enc Try.prog w 0 spare held fuel 24 [kv] = some x → ∃ k : List Ft, ∀ o n t, KsAt w kv (.mk o n t k) := by
  intro N
  induction N with
  | zero =>
    intro fuel hN kv x h
    obtain rfl : fuel = 0 := by omega
    simp [DataW.trod] at h
  | succ N ih =>
    intro fuel hN kv x h
    rcases DataW.trod_slice Try.underlying24 h with ⟨hcs, _⟩ | ⟨a, len, cap, elems, rest, n, rfl, hcs, _, _, hl, hcap, hlen, hel, _, _⟩
    · simp only [List.cons.injEq, and_true] at hcs
      exact ⟨[], fun o n t => by rw [KsAt]; exact ⟨none, 0, hcs, by simp, .inl rfl⟩⟩
    · simp only [List.cons.injEq, and_true] at hcs
      subst hcs
      have h63 : len ≤ 9223372036854775807 := by unfold maxLen at hcap; omega
      by_cases h0 : len = 0
      · subst h0
        exact ⟨[], fun o n t => by rw [KsAt]; exact ⟨some a, cap, rfl, by simp, .inl rfl⟩⟩
      rw [cells26] at hel
      have one : ∀ i, i < len → (a.add (i * 4)).spot = none ∧ (a.add (i * 4)).block < w.heap.size ∧ ∃ (f : Ft) (kv : Value), w.cell? (a.add (i * 4)) = some (.int .i64 f.op) ∧ w.cell? ((a.add (i * 4)).add 1) = some (.string f.name) ∧
          w.cell? ((a.add (i * 4)).add 2) = some (.string f.text) ∧ w.cell? ((a.add (i * 4)).add 3) = some kv ∧ KsAt w kv f := by
        intro i hi
        have hi' : i < elems.length := by omega
        have he := hel i hi
        rw [List.getElem?_eq_getElem hi'] at he
        obtain ⟨cs, hc, ht⟩ := Option.bind_eq_some_iff.1 he
        obtain ⟨_, hcl, hcc⟩ := World.cells?_some hc
        obtain ⟨o, nm, t, kv, m, y, rfl, rfl, h3⟩ := filt_cells hcl ht
        obtain ⟨k, hk⟩ := ih m (by omega) kv y h3
        have g0 := hcc 0 (by omega)
        have g1 := hcc 1 (by omega)
        have g2 := hcc 2 (by omega)
        have g3 := hcc 3 (by omega)
        have e0 : (a.add (i * 4)).add 0 = a.add (i * 4) := by simp [Addr.add]
        rw [e0] at g0
        simp only [List.getElem?_cons_zero, List.getElem?_cons_succ] at g0 g1 g2 g3
        exact ⟨World.cell?_spot g0, World.block_lt_of_cell? w _ g0, .mk o nm t k, kv, g0, g1, g2, g3, hk o nm t⟩
      obtain ⟨hsp, hblt, _⟩ := one 0 (by omega)
      have ea : a.add (0 * 4) = a := by simp [Addr.add]
      rw [ea] at hsp hblt
      obtain ⟨b, off, spot⟩ := a
      simp only [] at hsp hblt
      subst hsp
      obtain ⟨k, hkl, hits⟩ := list_of (Ft.mk 0 ⟨#[]⟩ ⟨#[]⟩ []) (fun i f => ∃ kv, w.cell? ⟨b, off + i * 4, none⟩ = some (.int .i64 f.op) ∧ w.cell? ⟨b, off + i * 4 + 1, none⟩ = some (.string f.name) ∧ w.cell? ⟨b, off + i * 4 + 2, none⟩ = some (.string f.text) ∧
        w.cell? ⟨b, off + i * 4 + 3, none⟩ = some kv ∧ KsAt w kv f) len (fun i hi => by
          obtain ⟨_, _, f, kv, g0, g1, g2, g3, hk⟩ := one i hi
          rw [add_lit] at g0 g1 g2 g3
          rw [add_lit] at g1 g2 g3
          exact ⟨f, kv, g0, g1, g2, g3, hk⟩)
      refine ⟨k, fun o n t => ?_⟩
      rw [KsAt]
      exact ⟨_, cap, by rw [hkl], by omega, .inr ⟨b, off, rfl, hblt, KAt.of hits⟩⟩

/-- A filter that came in. -/
theorem filt_open {w : World} {spare : Nat → Bool} {held : Bool} {fuel : Nat} {v : Value} (hv : ∃ cs : Array Value, v = .agg cs ∧ cs.size = Try.prog.cellsOf 26) {x : DataW H × List MemPlace}
    (h : DataW.trod enc Try.prog w 0 spare held fuel 26 v.cells.toList = some x) : ∃ f, FAt w v f := by
  obtain ⟨cs, rfl, hs⟩ := hv
  rw [cells26] at hs
  obtain ⟨o, n, t, kv, m, y, rfl, hcs, h3⟩ := filt_cells (cs := cs.toList) (by simpa using hs) h
  obtain ⟨k, hk⟩ := kids_open m m (Nat.le_refl _) kv y h3
  refine ⟨.mk o n t k, kv, ?_, hk o n t⟩
  have : cs = #[.int .i64 o, .string n, .string t, kv] := Array.toList_inj.1 hcs
  rw [this]
  rfl

end Go.Proofs.Ytgmahdeaggjjgaa
