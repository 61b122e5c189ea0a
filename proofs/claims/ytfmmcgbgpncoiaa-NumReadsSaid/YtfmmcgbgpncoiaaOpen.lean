/-
  THE SLICE OF ITEMS THAT CAME IN, opened.
-/
import Derived.Test.YtfmmcgbgpncoiaaBackWalk
import Derived.Deep.Slices
import Derived.Deep.Strs
import Derived.Lib.SmallJoins
import Derived.ProofKit
namespace Go.Proofs.Ytfmmcgbgpncoiaa
open Go.RowKit Go

theorem list_of {α : Type} (d : α) (p : Nat → α → Prop) : ∀ (n : Nat), (∀ i, i < n → ∃ x, p i x) → ∃ l : List α, l.length = n ∧ ∀ i, i < n → p i (l.getD i d)
  | 0, _ => ⟨[], rfl, fun i h => by omega⟩
  | n + 1, h => by
    obtain ⟨l, hl, hp⟩ := list_of d p n (fun i hi => h i (by omega))
    obtain ⟨x, hx⟩ := h n (by omega)
    refine ⟨l ++ [x], by simp [hl], fun i hi => ?_⟩
    rcases Nat.lt_or_ge i n with hlt | hge
    · have := hp i hlt
      simp only [List.getD, List.getElem?_append_left (hl ▸ hlt)] at this ⊢
      exact this
    · obtain rfl : i = n := by omega
      simp only [List.getD, List.getElem?_append_right (Nat.le_of_eq hl), hl, Nat.sub_self, List.getElem?_cons_zero, Option.getD_some]
      exact hx

theorem mem_getD {α : Type} {l : List α} {d x : α} (h : x ∈ l) : ∃ i, i < l.length ∧ l.getD i d = x := by
  obtain ⟨i, hi, rfl⟩ := List.getElem_of_mem h
  exact ⟨i, hi, by simp [List.getD, hi]⟩

theorem cells49 : Try.prog.cellsOf 49 = 3 := by kernel_rfl

variable {H : Type} {enc : TypeId × Value → H}

/-- One item's cells. -/
theorem item_at {w : World} {a : Addr} {k fuel : Nat} {spare : Nat → Bool} {held : Bool} {cs : List Value} {x : DataW H × List MemPlace}
    (h : w.cells? 0 (a.add (k * 3)) 3 = some cs) (ht : DataW.trod enc Try.prog w 0 spare held fuel 49 cs = some x) :
    (a.add (k * 3)).spot = none ∧ (a.add (k * 3)).block < w.heap.size ∧ ∃ y : It, w.cell? (a.add (k * 3)) = some (.int .i64 y.kind) ∧ w.cell? ((a.add (k * 3)).add 1) = some (.int .u64 y.n) ∧ w.cell? ((a.add (k * 3)).add 2) = some (.string y.s) ∧
      (-9223372036854775808 ≤ y.kind ∧ y.kind ≤ 9223372036854775807 ∧ y.n < 18446744073709551616 ∧ y.s.size ≤ maxLen) := by
  obtain ⟨_, hl, hc⟩ := World.cells?_some h
  obtain ⟨y0, y1, y2, n, _, _, h0, h1, h2⟩ := Go.Deep.trod_struct3 Try.underlying49 ht
  match cs, hl with
  | [c0, c1, c2], _ =>
    have e3 : Try.prog.cellsOf 3 = 1 := by kernel_rfl
    have e22 : Try.prog.cellsOf 22 = 1 := by kernel_rfl
    have e9 : Try.prog.cellsOf 9 = 1 := by kernel_rfl
    simp only [e3, e22, e9, List.drop_zero, List.drop_succ_cons, List.take_succ_cons, List.take_zero] at h0 h1 h2
    obtain ⟨kd, hk, _, wk⟩ := DataW.trod_int Try.underlying3 h0
    obtain ⟨m, hm, _, wm⟩ := DataW.trod_int Try.underlying22 h1
    obtain ⟨s, hs, _, ws⟩ := DataW.trod_string Try.underlying9 h2
    simp only [List.cons.injEq, and_true] at hk hm hs
    subst hk hm hs
    have g0 := hc 0 (by omega)
    have g1 := hc 1 (by omega)
    have g2 := hc 2 (by omega)
    have e : (a.add (k * 3)).add 0 = a.add (k * 3) := by simp [Addr.add]
    rw [e] at g0
    simp only [List.getElem?_cons_zero, List.getElem?_cons_succ] at g0 g1 g2
    have bk := bounds_i64 wk
    have bm := bounds_u64 wm
    have hsp := World.cell?_spot g0
    have hlt := World.block_lt_of_cell? w _ g0
    have em : (m.toNat : Int) = m := by omega
    exact ⟨hsp, hlt, ⟨kd, m.toNat, s⟩, g0, by rw [g1, ← em]; rfl, g2, by show -9223372036854775808 ≤ kd; omega, by show kd ≤ 9223372036854775807; omega, by show m.toNat < 18446744073709551616; omega, ws⟩

theorem add_lit (b off k : Nat) : (⟨b, off, none⟩ : Addr).add k = ⟨b, off + k, none⟩ := by
  unfold Addr.add
  split
  · rename_i h; subst h; rfl
  · rfl

/-- The slice of items that came in: it has no item, or its items lie in cells. -/
theorem items_open {w : World} {spare : Nat → Bool} {held : Bool} {fuel : Nat} {a0 : Option Addr} {len cap : Nat} {x : DataW H × List MemPlace}
    (h : DataW.trod enc Try.prog w 0 spare held fuel 47 [.slice a0 len cap] = some x) : len = 0 ∨ ∃ b off its, a0 = some ⟨b, off, none⟩ ∧ its.length = len ∧ ItemsAt w b off its := by
  rcases Go.Deep.open_slice Try.underlying47 h with ⟨hcs, _⟩ | ⟨a, len', cap', m, n, D, Pl, hcs, _, hl, _, hm, _, hel⟩
  · simp only [List.cons.injEq, Value.slice.injEq, and_true] at hcs
    exact .inl hcs.2.1
  · simp only [List.cons.injEq, Value.slice.injEq, and_true] at hcs
    obtain ⟨rfl, rfl, rfl⟩ := hcs
    have hlm : len ≤ m := by rw [hm]; split <;> omega
    rw [cells49] at hel
    by_cases h0 : len = 0
    · exact .inl h0
    refine .inr ?_
    have at0 := hel 0 (by omega)
    obtain ⟨cs0, hc0, ht0⟩ := at0
    obtain ⟨hsp, hblt, _⟩ := item_at hc0 ht0
    have ea : a.add (0 * 3) = a := by simp [Addr.add]
    rw [ea] at hsp hblt
    obtain ⟨b, off, spot⟩ := a
    simp only [] at hsp hblt
    subst hsp
    obtain ⟨its, hlen, hits⟩ := list_of (⟨0, 0, ⟨#[]⟩⟩ : It) (fun i y => w.cell? ⟨b, off + i * 3, none⟩ = some (.int .i64 y.kind) ∧ w.cell? ⟨b, off + i * 3 + 1, none⟩ = some (.int .u64 y.n) ∧ w.cell? ⟨b, off + i * 3 + 2, none⟩ = some (.string y.s) ∧
      (-9223372036854775808 ≤ y.kind ∧ y.kind ≤ 9223372036854775807 ∧ y.n < 18446744073709551616 ∧ y.s.size ≤ maxLen)) len (fun i hi => by
        obtain ⟨cs, hc, ht⟩ := hel i (by omega)
        obtain ⟨_, _, y, g0, g1, g2, g3⟩ := item_at hc ht
        rw [add_lit] at g0 g1 g2
        rw [add_lit] at g1 g2
        exact ⟨y, g0, g1, g2, g3⟩)
    refine ⟨b, off, its, rfl, hlen, ⟨hblt, fun i hi => (hits i (hlen ▸ hi)).1, fun i hi => (hits i (hlen ▸ hi)).2.1, fun i hi => (hits i (hlen ▸ hi)).2.2.1, fun y hy => ?_⟩⟩
    obtain ⟨i, hi, rfl⟩ := mem_getD (d := (⟨0, 0, ⟨#[]⟩⟩ : It)) hy
    exact (hits i (hlen ▸ hi)).2.2.2

end Go.Proofs.Ytfmmcgbgpncoiaa
