/-
  A ROW OF ENTRIES, TURNED: what two appends make of its two parts.
-/
import Derived.Test.YtgcldnojmdabpaaRowFull
import Derived.Test.YtgcldnojmdabpaaBackMath
namespace Go.Proofs.Ytgcldnojmdabpaa
open Go.RowKit Go

theorem src_none39 (W : World) (a : Option Addr) (c : Nat) : Src Try.prog 3 39 (.slice a 0 c) 0 [] W := by
  cases a with
  | none => exact Src.ofNil _ Try.underlying39 c
  | some p => exact Src.ofSlice _ Try.underlying39 p 0 c [] rfl (fun j u hu => by simp at hu) (fun u hu => by simp at hu)

theorem RawAt.take {w : World} {g off : Nat} {R : List (Value × Ent)} (h : RawAt w g off R) (q : Nat) : RawAt w g off (R.take q) := fun i hi => by
  rw [List.length_take] at hi
  have := h i (by omega)
  rw [List.getElem_take]
  exact this

/-- The entries of a row, as they lie; its two parts, as what is appended. -/
theorem EntsAt.parts {G L : Nat → Prop} {w : World} {al : Option Addr} {n cl : Nat} {es : List Ent} (h : EntsAt G L w (.slice al n cl) es) :
    ∃ R, R.map Prod.snd = es ∧ RawL L w R ∧ n = R.length ∧ (∀ W q c, Lay w W → q ≤ n → Src Try.prog 3 39 (.slice al q c) q (flatR (R.take q)) W) ∧
      (∀ W a q c, Lay w W → q ≤ n → (n ≤ q ∨ ∀ b off, al = some ⟨b, off, none⟩ → a = some ⟨b, off + q * 3, none⟩) → Src Try.prog 3 39 (.slice a (n - q) c) (n - q) (flatR (R.drop q)) W) := by
  by_cases h0 : es = []
  · obtain ⟨_, _, hv, _⟩ := h
    subst h0
    simp only [List.length_nil, Value.slice.injEq] at hv
    obtain ⟨rfl, rfl, rfl⟩ := hv
    refine ⟨[], rfl, fun x hx => by simp at hx, rfl, fun W q c _ hq => ?_, fun W a q c _ hq _ => ?_⟩
    · obtain rfl : q = 0 := by omega
      exact src_none39 _ _ _
    · obtain rfl : q = 0 := by omega
      exact src_none39 _ _ _
  · obtain ⟨b, off, R, rfl, rfl, hR, hg, hb, hraw, hL⟩ := h.raw h0
    refine ⟨R, hR, hL, rfl, fun W q c hl hq => ?_, fun W a q c hl hq ha => ?_⟩
    · have h := ((hraw.lay hb hl).take q).src (fun z hz => (hL.lay hl) z (List.mem_of_mem_take hz)) c
      rw [List.length_take, Nat.min_eq_left hq] at h
      exact h
    · by_cases e : q = R.length
      · subst e
        rw [Nat.sub_self, List.drop_length]
        exact src_none39 _ _ _
      · rcases ha with ha | ha
        · omega
        · rw [ha b off rfl]
          have h := ((hraw.lay hb hl).drop q).src (fun z hz => (hL.lay hl) z (List.mem_of_mem_drop hz)) c
          rw [List.length_drop] at h
          exact h

/-- Turned: the last ones ahead, in a block of its own. -/
theorem turned_any {G L : Nat → Prop} {w : World} {al : Option Addr} {n cl : Nat} {es : List Ent} (h : EntsAt G L w (.slice al n cl) es) (hn : n ≤ 1000) {W : World} (hl : Lay w W) {q : Nat} (hq : q ≤ n) {a : Option Addr} (ha : n ≤ q ∨ ∀ b off, al = some ⟨b, off, none⟩ → a = some ⟨b, off + q * 3, none⟩) (c c2 : Nat) :
    ∃ v7 w7 v8 w8, (Builtin.append_ #[39, 39] 39 #[.slice (some ⟨W.heap.size, 0, none⟩) 0 0, .slice a (n - q) c]).run Try.prog (W.alloc (.cells #[] 24)) = .ok v7 w7 ∧ (Builtin.append_ #[39, 39] 39 #[v7, .slice al q c2]).run Try.prog w7 = .ok v8 w8 ∧
      EntsAt (fun b => W.heap.size ≤ b) L w8 v8 (es.drop q ++ es.take q) ∧ Lay W w8 := by
  obtain ⟨i24, z24, E24⟩ := elem24
  obtain ⟨R, rfl, hL, hnR, h1, h2⟩ := h.parts
  have hW : Lay W (W.alloc (.cells #[] 24)) := (Keep.refl _ _).alloc _
  obtain ⟨v7, w7, hrun1, hb7, hl7⟩ := run_append_full E24 ((rk_new 3 W 0 [] 24 rfl (by omega)).mono (G' := fun b => W.heap.size ≤ b) fun b hb _ => Nat.le_of_eq hb.symm) (fun b hb => by simp at hb; omega) 39 39 (.slice a (n - q) c) (n - q) _ (h2 _ a q c (hl.trans hW) hq ha) (by omega) (by omega) (by omega)
  have hl7' : Lay W w7 := hW.trans hl7
  obtain ⟨v8, w8, hrun2, hb8, hl8⟩ := run_append_rk E24 hb7 (fun b hb => Nat.le_trans hl7'.size hb) 39 39 (.slice al q c2) q _ (h1 w7 q c2 (hl.trans hl7') hq) (by omega) (by omega)
  have hl8' : Lay W w8 := lay_keepB hl7' hl8 fun b hb => (hb7.at hb).1
  refine ⟨v7, w7, v8, w8, hrun1, hrun2, ?_, hl8'⟩
  rw [List.nil_append, ← flatR_append] at hb8
  have h := (hb8.mono (G' := fun b => W.heap.size ≤ b) fun b hb _ => hb.1).ents (L := L) (fun z hz => by
    rcases List.mem_append.1 hz with hz | hz
    · exact hL.lay (hl.trans hl8') z (List.mem_of_mem_drop hz)
    · exact hL.lay (hl.trans hl8') z (List.mem_of_mem_take hz))
  rw [List.map_append, List.map_drop, List.map_take] at h
  exact h

end Go.Proofs.Ytgcldnojmdabpaa
