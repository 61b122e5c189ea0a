/-
  WHAT IS WRONG HAS A NUMBER; a token's row in memory.
-/
import Derived.Test.YtmodiemmcdocdaaDoorBs7
import Derived.Test.YtmodiemmcdocdaaDoorPxB
namespace Go.Proofs.YtmodiemmcdocdaaDoor.PX
open Go LX

/-- Where it is an error, it has a number. -/
def Nz {α : Type} (r : Except (Nat × Nat) α) : Prop := ∀ p, r = .error p → p.1 ≠ 0

theorem nz_ok {α : Type} (x : α) : Nz (.ok x : Except (Nat × Nat) α) := fun p h => by cases h
theorem nz_err {α : Type} {a b : Nat} (h : a ≠ 0) : Nz (.error (a, b) : Except (Nat × Nat) α) := fun p e => by cases e; exact h
theorem nz_want (ts : List Tok) (w : List UInt8) (i : Nat) : Nz (want ts w i) := by
  unfold want
  split
  · exact nz_ok _
  · exact nz_err (by decide)
theorem nz_token (ts : List Tok) (k i : Nat) : Nz (token ts k i) := by
  unfold token
  split
  · exact nz_ok _
  · exact nz_err (by decide)
theorem nz_of {α β : Type} {r : Except (Nat × Nat) α} {e : Nat × Nat} (h : Nz r) (he : r = .error e) : Nz (.error e : Except (Nat × Nat) β) := fun p hp => by cases hp; exact h _ he
theorem nz_number (ts : List Tok) (lo hi : Int) (i : Nat) : Nz (number ts lo hi i) := by
  unfold number
  split
  · rename_i he; exact nz_of (nz_token ts 3 i) he
  split
  · exact nz_err (by decide)
  · exact nz_ok _
theorem nz_rest {ts : List Tok} {w : List UInt8} {one : Nat → PR Ft} (h : ∀ i, Nz (one i)) : ∀ f i, Nz (rest ts w one f i)
  | 0, i => nz_ok _
  | f + 1, i => by
    rw [rest]
    split
    · split
      · rename_i he; exact nz_of (h _) he
      split
      · rename_i he; exact nz_of (nz_rest h f _) he
      exact nz_ok _
    · exact nz_ok _
theorem nz_row {ts : List Tok} {w : List UInt8} {op : Int} {one : Nat → PR Ft} (h : ∀ i, Nz (one i)) (i : Nat) : Nz (row ts w op one i) := by
  unfold row
  split
  · rename_i he; exact nz_of (h i) he
  split
  · rename_i he; exact nz_of (nz_rest h _ _) he
  exact nz_ok _
theorem nz_leaf (ts : List Tok) (i : Nat) : Nz (leaf ts i) := by
  unfold leaf
  split
  · exact nz_ok _
  split
  · exact nz_ok _
  split
  · split
    · rename_i he; exact nz_of (nz_token ts 4 _) he
    · exact nz_ok _
  split
  · split
    · rename_i he; exact nz_of (nz_token ts 4 _) he
    · exact nz_ok _
  split
  · rename_i he; exact nz_of (nz_want ts _ _) he
  split
  · rename_i he; exact nz_of (nz_token ts 1 _) he
  split
  · rename_i he; exact nz_of (nz_want ts _ _) he
  split
  · rename_i he; exact nz_of (nz_token ts 4 _) he
  exact nz_ok _
theorem nz_atom (ts : List Tok) : ∀ d i, Nz (atom ts d i)
  | 0, i => by
    rw [atom]
    split
    · exact nz_err (by decide)
    split
    · exact nz_err (by decide)
    exact nz_leaf ts i
  | d + 1, i => by
    rw [atom]
    split
    · split
      · rename_i he; exact nz_of (nz_atom ts d _) he
      · exact nz_ok _
    split
    · split
      · rename_i he; exact nz_of (nz_row (nz_row (nz_atom ts d)) _) he
      split
      · rename_i he; exact nz_of (nz_want ts _ _) he
      · exact nz_ok _
    exact nz_leaf ts i
theorem nz_wheres (ts : List Tok) : ∀ f n i, Nz (wheres ts f n i)
  | 0, n, i => nz_ok _
  | f + 1, n, i => by
    rw [wheres]
    split
    · split
      · exact nz_err (by decide)
      split
      · rename_i he; exact nz_of (nz_token ts 1 _) he
      split
      · rename_i he
        refine nz_of ?_ he
        split
        · exact nz_ok _
        split
        · rename_i he; exact nz_of (nz_want ts _ _) he
        · exact nz_ok _
      split
      · rename_i he; exact nz_of (nz_token ts 4 _) he
      split
      · rename_i he; exact nz_of (nz_wheres ts f _ _) he
      · exact nz_ok _
    · exact nz_ok _
theorem nz_query (ts : List Tok) : Nz (query ts) := by
  unfold query
  split
  · rename_i he; exact nz_of (nz_want ts _ _) he
  split
  · rename_i he; exact nz_of (nz_number ts _ _ _) he
  split
  · rename_i he; exact nz_of (nz_want ts _ _) he
  split
  · rename_i he; exact nz_of (nz_number ts _ _ _) he
  split
  · exact nz_err (by decide)
  split
  · rename_i he; exact nz_of (nz_wheres ts _ _ _) he
  split
  · rename_i he
    refine nz_of ?_ he
    split
    · exact nz_row (nz_row (nz_atom ts 8)) _
    · exact nz_ok _
  split
  split
  · rename_i he; exact nz_of (nz_want ts _ _) he
  split
  · rename_i he; exact nz_of (nz_number ts _ _ _) he
  split
  · rename_i he
    refine nz_of ?_ he
    split
    · split
      · rename_i he; exact nz_of (nz_token ts _ _) he
      · exact nz_ok _
    · exact nz_ok _
  split
  · exact nz_ok _
  · exact nz_err (by decide)
theorem lex_nz (l : List UInt8) : Nz (LX.lex l) := by
  unfold LX.lex
  split
  · exact nz_err (by decide)
  split
  · exact nz_err (by decide)
  split
  · exact nz_err (by decide)
  · exact nz_ok _
theorem parse_nz {l : List UInt8} {p : Nat × Nat} (h : parse l = .error p) : p.1 ≠ 0 := by
  have : Nz (parse l) := by
    unfold parse
    split
    · rename_i he; exact nz_of (lex_nz l) he
    · exact nz_query _
  exact this p h

end Go.Proofs.YtmodiemmcdocdaaDoor.PX

