/-
  ROWS OF WORDS, MATCHERS, while they are read.
-/
import Derived.Test.YtaghogfkkmphoaaDoorHq12
import Derived.Test.YtaghogfkkmphoaaDoorNa
namespace Go.Proofs.YtaghogfkkmphoaaDoor.E4
open Go.RowKit Go

theorem Bl.chg {W W' : World} {g B : Nat} {t : TypeId} {arr : Array Value} (h : Bl W B t arr) (hk : Chg g W W') (hne : B ≠ g) : Bl W' B t arr := (hk.block B h.lt hne).trans h
theorem Bl.only {W W' : World} {g B : Nat} {t : TypeId} {arr : Array Value} (h : Bl W B t arr) (hk : Only g W W') (hne : B ≠ g) : Bl W' B t arr := (hk.block B hne).trans h
theorem Bl.set {W : World} {B : Nat} {t : TypeId} {arr : Array Value} (h : Bl W B t arr) (i : Nat) (u : Value) : Bl (W.setCell ⟨B, i, none⟩ u) B t (arr.setIfInBounds i u) := by
  obtain ⟨hlt, hk⟩ := Array.getElem?_eq_some_iff.1 h
  show (W.heap.modify B _)[B]? = _
  rw [Array.getElem?_eq_getElem (by rw [Array.size_modify]; exact hlt), Array.getElem_modify_self, hk]
  rfl
theorem chg_set {g : Nat} {w W : World} (h : Chg g w W) {B : Nat} (hp : w.heap.size ≤ B) (i : Nat) (u : Value) : Chg g w (W.setCell ⟨B, i, none⟩ u) :=
  ⟨h.os, h.tape, h.output, by simpa [World.setCell] using h.size, fun k hk hne => (Below.heap_setCell _ ⟨B, i, none⟩ u k (Nat.ne_of_lt (Nat.lt_of_lt_of_le hk hp))).trans (h.block k hk hne)⟩
theorem chg_keep {g : Nat} {w W W' : World} {v : Value} (h : Chg g w W) (hk : Keep (At v) W W') (ha : ∀ b, At v b → w.heap.size ≤ b) : Chg g w W' :=
  ⟨hk.os.trans h.os, hk.tape.trans h.tape, hk.output.trans h.output, Nat.le_trans h.size hk.size, fun k hlt hne => (hk.block k (Nat.lt_of_lt_of_le hlt h.size) fun hv => by have := ha k hv; omega).trans (h.block k hlt hne)⟩

/-- Rows, in blocks from B on. -/
def RowsG (B : Nat) (w : World) (av : Value) (rows : List (List ByteArray)) (xs : List Value) : Prop :=
  Rk 1 (fun q => B ≤ q) w av rows.length xs ∧ ∀ i (h : i < rows.length), ∃ u, xs[i]? = some u ∧ SG (fun q => B ≤ q ∧ ¬ At av q) w u rows[i]
theorem RowsG.nil (B : Nat) (w : World) : RowsG B w (.slice none 0 0) [] [] := ⟨Rk.nil _ _ _, fun i h => by simp at h⟩
theorem RowsG.at {B : Nat} {w : World} {av : Value} {rows : List (List ByteArray)} {xs : List Value} (h : RowsG B w av rows xs) (hl : rows.length ≤ 1000) : TextsAt w av rows := by
  obtain ⟨⟨hn, ⟨rfl, h0⟩ | ⟨g, cap, rfl, hg, hlt, _, _, hc, _⟩⟩, h2⟩ := h
  · have : rows = [] := List.eq_nil_of_length_eq_zero h0
    subst this
    exact ⟨none, 0, rfl, by simp, .inl rfl⟩
  · refine ⟨_, cap, rfl, by omega, .inr ⟨g, 0, rfl, hlt, fun i hi => ?_⟩⟩
    obtain ⟨u, hu, hs⟩ := h2 i hi
    refine ⟨u, ?_, hs.at⟩
    rw [Nat.zero_add, hc i (by omega), hu]
theorem RowsG.chg {B g : Nat} {w w' : World} {av : Value} {rows : List (List ByteArray)} {xs : List Value} (h : RowsG B w av rows xs) (hk : Chg g w w') (hg : g < B) : RowsG B w' av rows xs :=
  ⟨h.1.carry hk.size fun k hB _ hlt => hk.block k hlt (by omega), fun i hi => by
    obtain ⟨u, hu, hs⟩ := h.2 i hi
    exact ⟨u, hu, hs.carry hk.size (fun b hb hlt => hk.block b hlt (by have := hb.1; omega)) fun _ hb _ => hb⟩⟩
theorem RowsG.snoc {B : Nat} {w w1 w' : World} {av rv v' : Value} {rows : List (List ByteArray)} {xs : List Value} {l : List ByteArray} {t : TypeId} (h : RowsG B w av rows xs) (hr : Rk 1 (fun q => B ≤ q ∧ ¬ At av q) w rv l.length (strs l)) (hl : l.length ≤ 1000) (hw : w1 = w.alloc (.cells #[rv] t))
    (hres : Rk 1 (fun k => B ≤ k ∧ (At av k ∨ w.heap.size + 1 ≤ k)) w' v' (rows.length + 1) (xs ++ [rv])) (hk : Keep (At av) w1 w') : RowsG B w' v' (rows ++ [l]) (xs ++ [rv]) := by
  have hxs : xs.length = rows.length := by have := h.1.1; omega
  have hsz : w1.heap.size = w.heap.size + 1 := by rw [hw]; simp
  have hbl : ∀ b, ¬ At av b → b < w.heap.size → w'.heap[b]? = w.heap[b]? := fun b hb hlt => (hk.block b (by omega) hb).trans (by rw [hw]; exact Below.heap_alloc _ _ _ hlt)
  have hss : w.heap.size ≤ w'.heap.size := by have := hk.size; omega
  have hG : ∀ b, (B ≤ b ∧ ¬ At av b) → b < w.heap.size → (B ≤ b ∧ ¬ At v' b) := fun b hb hlt => ⟨hb.1, fun ha => by
    rcases (hres.at ha).1.2 with h1 | h1
    · exact hb.2 h1
    · omega⟩
  refine ⟨?_, fun i hi => ?_⟩
  · have := hres.mono (G' := fun q => B ≤ q) fun k hk _ => hk.1
    rw [List.length_append, List.length_singleton]
    exact this
  · rw [List.length_append, List.length_singleton] at hi
    by_cases hlt : i < rows.length
    · obtain ⟨u, hu, hs⟩ := h.2 i hlt
      refine ⟨u, by rw [List.getElem?_append_left (by omega)]; exact hu, ?_⟩
      rw [List.getElem_append_left hlt]
      exact hs.carry hss (fun b hb hlt => hbl b hb.2 hlt) hG
    · obtain rfl : i = rows.length := by omega
      refine ⟨rv, by rw [List.getElem?_append_right (by omega), hxs]; simp, ?_⟩
      rw [List.getElem_append_right (Nat.le_refl _)]
      simp only [Nat.sub_self, List.getElem_singleton]
      exact (sg_of_rk hr hl).carry hss (fun b hb hlt => hbl b hb.2 hlt) hG

end Go.Proofs.YtaghogfkkmphoaaDoor.E4
