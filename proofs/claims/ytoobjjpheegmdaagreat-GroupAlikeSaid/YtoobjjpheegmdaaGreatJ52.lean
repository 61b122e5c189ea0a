/-
  Oi16.
-/
import Derived.Test.YtoobjjpheegmdaaGreatJ06
import Derived.Deep.Slices
import Derived.Deep.Strs
import Derived.Lib.SmallJoins
import Derived.ProofKit
namespace Go.Proofs.YtoobjjpheegmdaaGreat
open Go.RowKit Go
theorem ints_lit (b off k : Nat) : (⟨b, off, none⟩ : Addr).add k = ⟨b, off + k, none⟩ := by
  unfold Addr.add
  split
  · rename_i h; subst h; rfl
  · rfl
theorem ints_list {α : Type} (d : α) (p : Nat → α → Prop) : ∀ (n : Nat), (∀ i, i < n → ∃ x, p i x) → ∃ l : List α, l.length = n ∧ ∀ i (h : i < l.length), p i l[i]
  | 0, _ => ⟨[], rfl, fun i h => by simp at h⟩
  | n + 1, h => by
    obtain ⟨l, hl, hp⟩ := ints_list d p n (fun i hi => h i (by omega))
    obtain ⟨x, hx⟩ := h n (by omega)
    refine ⟨l ++ [x], by simp [hl], fun i hi => ?_⟩
    rcases Nat.lt_or_ge i n with hlt | hge
    · have := hp i (hl ▸ hlt)
      rwa [List.getElem_append_left (hl ▸ hlt)]
    · obtain rfl : i = n := by simp [hl] at hi; omega
      subst hl
      rw [List.getElem_append_right (Nat.le_refl _)]
      simpa using hx
theorem ints_cells3 : Tryz.prog.cellsOf 3 = 1 := by kernel_rfl
variable {H : Type} {enc : TypeId × Value → H}
theorem ints_open {w : World} {spare : Nat → Bool} {held : Bool} {fuel : Nat} {v : Value} {x : DataW H × List MemPlace}
    (h : DataW.trod enc Tryz.prog w 0 spare held fuel 22 [v] = some x) : ∃ l, IntsAt w v l := by
  rcases Go.Deep.open_slice1 Tryz.underlying22 ints_cells3 h with ⟨hcs, _⟩ | ⟨a, len, cap, m, n, V, D, Pl, hcs, _, hl, hcap, hm, _, hel⟩
  · simp only [List.cons.injEq, and_true] at hcs
    exact ⟨[], none, 0, hcs, by simp, .inl rfl⟩
  · simp only [List.cons.injEq, and_true] at hcs
    subst hcs
    have hlm : len ≤ m := by rw [hm]; split <;> omega
    have h63 : len ≤ 9223372036854775807 := by unfold maxLen at hcap; omega
    by_cases h0 : len = 0
    · subst h0
      exact ⟨[], some a, cap, rfl, by simp, .inl rfl⟩
    obtain ⟨hc0, _⟩ := hel 0 (by omega)
    have ea : a.add 0 = a := by simp [Addr.add]
    rw [ea] at hc0
    have hsp := World.cell?_spot hc0
    have hblt := World.block_lt_of_cell? w _ hc0
    obtain ⟨b, off, spot⟩ := a
    simp only [] at hsp hblt
    subst hsp
    obtain ⟨l, hlen, hits⟩ := ints_list (0 : Int) (fun i y => w.cell? ⟨b, off + i, none⟩ = some (.int .i64 y)) len (fun i hi => by
        obtain ⟨hc, ht⟩ := hel i (by omega)
        obtain ⟨kd, hk, _, _⟩ := DataW.trod_int Tryz.underlying3 ht
        simp only [List.cons.injEq, and_true] at hk
        rw [hk, ints_lit] at hc
        exact ⟨kd, hc⟩)
    exact ⟨l, _, cap, by rw [hlen], by omega, .inr ⟨b, off, rfl, hblt, hits⟩⟩
end Go.Proofs.YtoobjjpheegmdaaGreat
