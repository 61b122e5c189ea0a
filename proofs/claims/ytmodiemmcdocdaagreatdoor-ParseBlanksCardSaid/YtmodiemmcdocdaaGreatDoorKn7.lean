/-
  WHAT IS WRONG HAS A NUMBER; a token's row in memory.
-/
import Derived.Test.YtmodiemmcdocdaaGreatDoorBs7
import Derived.Test.YtmodiemmcdocdaaGreatDoorPxB
namespace Go.Proofs.YtmodiemmcdocdaaGreatDoor.PX
open Go LX

/-- Where it is an error, it has a number. -/
def Nz {α : Type} (r : Except (Nat × Nat) α) : Prop := ∀ p, r = .error p → p.1 ≠ 0

theorem nz_ok {α : Type} (x : α) : Nz (.ok x : Except (Nat × Nat) α) := fun p h => by cases h
theorem nz_err {α : Type} {a b : Nat} (h : a ≠ 0) : Nz (.error (a, b) : Except (Nat × Nat) α) := fun p e => by cases e; exact h
theorem nz_want (ts : List Tok) (w : List UInt8) (i : Nat) : Nz (want ts w i) := by
  unfold want
  split
  · exact nz_ok _
  · exact nz_err (by decide)
theorem nz_token (ts : List Tok) (k i : Nat) : Nz (token ts k i) := by
  unfold token
  split
  · exact nz_ok _
  · exact nz_err (by decide)
theorem nz_of {α β : Type} {r : Except (Nat × Nat) α} {e : Nat × Nat} (h : Nz r) (he : r = .error e) : Nz (.error e : Except (Nat × Nat) β) := fun p hp => by cases hp; exact h _ he
theorem nz_number (ts : List Tok) (lo hi : Int) (i : Nat) : Nz (number ts lo hi i) := by
  unfold number
  split
  · rename_i he; exact nz_of (nz_token ts 3 i) he
  split
  · exact nz_err (by decide)
  · exact nz_ok _
theorem nz_rest {ts : List Tok} {w : List UInt8} {one : Nat → PR Ft} (h : ∀ i, Nz (one i)) : ∀ f i, Nz (rest ts w one f i)
  | 0, i => nz_ok _
  | f + 1, i => by
    rw [rest]
    split
    · split
      · rename_i he; exact nz_of (h _) he
      split
      · rename_i he; exact nz_of (nz_rest h f _) he
      exact nz_ok _
    · exact nz_ok _
theorem nz_row {ts : List Tok} {w : List UInt8} {op : Int} {one : Nat → PR Ft} (h : ∀ i, Nz (one i)) (i : Nat) : Nz (row ts w op one i) := by
  unfold row
  split
  · rename_i he; exact nz_of (h i) he
  split
  · rename_i he; exact nz_of (nz_rest h _ _) he
  exact nz_ok _
theorem nz_leaf (ts : List Tok) (i : Nat) : Nz (leaf ts i) := by
  unfold leaf
  split
  · exact nz_ok _
  split
  · exact nz_ok _
  split
  · split
    · rename_i he; exact nz_of (nz_token ts 4 _) he
    · exact nz_ok _
  split
  · split
    · rename_i he; exact nz_of (nz_token ts 4 _) he
    · exact nz_ok _
  split
  · rename_i he; exact nz_of (nz_want ts _ _) he
  split
  · rename_i he; exact nz_of (nz_token ts 1 _) he
  split
  · rename_i he; exact nz_of (nz_want ts _ _) he
  split
  · rename_i he; exact nz_of (nz_token ts 4 _) he
  exact nz_ok _
theorem nz_atom (ts : List Tok) : ∀ d i, Nz (atom ts d i)
  | 0, i => by
    rw [atom]
    split
    · exact nz_err (by decide)
    split
    · exact nz_err (by decide)
    exact nz_leaf ts i
  | d + 1, i => by
    rw [atom]
    split
    · split
      · rename_i he; exact nz_of (nz_atom ts d _) he
      · exact nz_ok _
    split
    · split
      · rename_i he; exact nz_of (nz_row (nz_row (nz_atom ts d)) _) he
      split
      · rename_i he; exact nz_of (nz_want ts _ _) he
      · exact nz_ok _
    exact nz_leaf ts i
theorem nz_wheres (ts : List Tok) : ∀ f n i, Nz (wheres ts f n i)
  | 0, n, i => nz_ok _
  | f + 1, n, i => by
    rw [wheres]
    split
    · split
      · exact nz_err (by decide)
      split
      · rename_i he; exact nz_of (nz_token ts 1 _) he
      split
      · rename_i he
        refine nz_of ?_ he
        split
        · exact nz_ok _
        split
        · rename_i he; exact nz_of (nz_want ts _ _) he
        · exact nz_ok _
      split
      · rename_i he; exact nz_of (nz_token ts 4 _) he
      split
      · rename_i he; exact nz_of (nz_wheres ts f _ _) he
      · exact nz_ok _
    · exact nz_ok _
theorem nz_query (ts : List Tok) : Nz (query ts) := by
  unfold query
  split
  · rename_i he; exact nz_of (nz_want ts _ _) he
  split
  · rename_i he; exact nz_of (nz_number ts _ _ _) he
  split
  · rename_i he; exact nz_of (nz_want ts _ _) he
  split
  · rename_i he; exact nz_of (nz_number ts _ _ _) he
  split
  · exact nz_err (by decide)
  split
  · rename_i he; exact nz_of (nz_wheres ts _ _ _) he
  split
  · rename_i he
    refine nz_of ?_ he
    split
    · exact nz_row (nz_row (nz_atom ts 8)) _
    · exact nz_ok _
  split
  split
  · rename_i he; exact nz_of (nz_want ts _ _) he
  split
  · rename_i he; exact nz_of (nz_number ts _ _ _) he
  split
  · rename_i he
    refine nz_of ?_ he
    split
    · split
      · rename_i he; exact nz_of (nz_token ts _ _) he
      · exact nz_ok _
    · exact nz_ok _
  split
  · exact nz_ok _
  · exact nz_err (by decide)
theorem lex_nz (l : List UInt8) : Nz (LX.lex l) := by
  unfold LX.lex
  split
  · exact nz_err (by decide)
  split
  · exact nz_err (by decide)
  split
  · exact nz_err (by decide)
  · exact nz_ok _
theorem parse_nz {l : List UInt8} {p : Nat × Nat} (h : parse l = .error p) : p.1 ≠ 0 := by
  have : Nz (parse l) := by
    unfold parse
    split
    · rename_i he; exact nz_of (lex_nz l) he
    · exact nz_query _
  exact this p h

end Go.Proofs.YtmodiemmcdocdaaGreatDoor.PX

namespace Go.Proofs.YtmodiemmcdocdaaGreatDoor
open Go.RowKit Go

/-- v holds the tokens. -/
def TkAt (w : World) (v : Value) (ts : List LX.Tok) : Prop := ∃ g cap, v = .slice (some ⟨g, 0, none⟩) ts.length cap ∧ g < w.heap.size ∧
  ∀ i (h : i < ts.length), w.cell? ⟨g, i * 4, none⟩ = some (.int .i64 (ts[i].kind : Nat)) ∧ w.cell? ⟨g, i * 4 + 1, none⟩ = some (.string ⟨ts[i].says.toArray⟩) ∧ w.cell? ⟨g, i * 4 + 2, none⟩ = some (.int .i64 ts[i].n) ∧ w.cell? ⟨g, i * 4 + 3, none⟩ = some (.int .i64 (ts[i].place : Nat))

theorem TkAt.of {G : Nat → Prop} {w : World} {v : Value} {ts : List LX.Tok} (h : Rk 4 G w v ts.length (flatT ts)) (hne : ts ≠ []) : TkAt w v ts := by
  obtain ⟨_, ⟨rfl, h0⟩ | ⟨g, cap, rfl, hg, hlt, _, _, hc, _⟩⟩ := h
  · exact absurd (List.eq_nil_of_length_eq_zero h0) hne
  · refine ⟨g, cap, rfl, hlt, fun i hi => ?_⟩
    have get : ∀ c, c < 4 → w.cell? ⟨g, i * 4 + c, none⟩ = (tokC ts[i])[c]? := fun c hc' => by
      rw [← flatT_get ts i hi c hc']
      exact hc _ (by rw [flatT_length]; omega)
    exact ⟨get 0 (by omega), get 1 (by omega), get 2 (by omega), get 3 (by omega)⟩

theorem TkAt.below {w w' : World} {v : Value} {ts : List LX.Tok} (h : TkAt w v ts) (hl : Below w.heap.size w w') : TkAt w' v ts := by
  obtain ⟨g, cap, hv, hlt, hc⟩ := h
  exact ⟨g, cap, hv, Nat.lt_of_lt_of_le hlt hl.size, fun i hi => ⟨(World.cell?_of_block (a := ⟨g, i * 4, none⟩) (hl.block g hlt)).trans (hc i hi).1, (World.cell?_of_block (a := ⟨g, i * 4 + 1, none⟩) (hl.block g hlt)).trans (hc i hi).2.1, (World.cell?_of_block (a := ⟨g, i * 4 + 2, none⟩) (hl.block g hlt)).trans (hc i hi).2.2.1, (World.cell?_of_block (a := ⟨g, i * 4 + 3, none⟩) (hl.block g hlt)).trans (hc i hi).2.2.2⟩⟩

theorem lex_some {l : List UInt8} {ts : List LX.Tok} (h : LX.lex l = .ok ts) : ts ≠ [] := by
  obtain ⟨_, _, r, _, rfl⟩ := LX.lex_ok h
  simp
end Go.Proofs.YtmodiemmcdocdaaGreatDoor
