/-
  A QUERY's LETTERS AS TOKENS: no program in it.
  A QUERY's LETTERS AS TOKENS: all of them. No program in it.
  A NUMBER's DIGITS ARE ONE TOKEN: no program in it.
  A NUMBER HAS ONE WAY TO BE WRITTEN, AND THAT WAY IS READ BACK: no program in it.
  TOKENS AS THEY LIE: their cells, one after the other.
-/
import Derived.Test.YtaghogfkkmphoaaDoorWdA
import Derived.Test.YtaghogfkkmphoaaDoorTrA
namespace Go.Proofs.YtaghogfkkmphoaaDoor.LX
open Go MW

/-! ### What is UTF-8 -/

/-- Does no rune begin here? -/
def bad (l : List UInt8) : Bool := decide ((dec l).1 = 65533) && decide ((dec l).2 = 1)

theorem bad_low (c : UInt8) (r : List UInt8) (h : c.toNat < 128) : bad (c :: r) = false := by
  unfold bad
  rw [dec_low c r h]
  simp
  omega

def vf : Nat → List UInt8 → Nat
  | 0, _ => 0
  | f + 1, l => if l = [] then 0 else if bad l = true then 0 else (dec l).2 + vf f (l.drop (dec l).2)

theorem vf_fuel : ∀ (n : Nat) (l : List UInt8) (f g : Nat), l.length ≤ n → l.length ≤ f → l.length ≤ g → vf f l = vf g l := by
  intro n
  induction n with
  | zero =>
    intro l f g h _ _
    obtain rfl := List.length_eq_zero_iff.1 (Nat.le_zero.1 h)
    cases f <;> cases g <;> simp [vf]
  | succ n ih =>
    intro l f g h hf hg
    by_cases hl : l = []
    · subst hl; cases f <;> cases g <;> simp [vf]
    · have hd := drop_lt l hl
      have hp := List.length_pos_iff.2 hl
      obtain ⟨f, rfl⟩ : ∃ k, f = k + 1 := ⟨f - 1, by omega⟩
      obtain ⟨g, rfl⟩ : ∃ k, g = k + 1 := ⟨g - 1, by omega⟩
      simp only [vf, if_neg hl]
      rw [ih _ f g (by omega) (by omega) (by omega)]

/-- How many bytes, from the first one on, are UTF-8. -/
def valid (l : List UInt8) : Nat := vf l.length l
theorem valid_bad (l : List UInt8) (h : bad l = true) : valid l = 0 := by
  unfold valid
  cases hl : l.length with
  | zero => rfl
  | succ n => simp [vf, h]
theorem valid_step (l : List UInt8) (hl : l ≠ []) (h : bad l = false) : valid l = (dec l).2 + valid (l.drop (dec l).2) := by
  have hd := drop_lt l hl
  have hp := List.length_pos_iff.2 hl
  unfold valid
  obtain ⟨n, hn⟩ : ∃ n, l.length = n + 1 := ⟨l.length - 1, by omega⟩
  rw [hn]
  simp only [vf, if_neg hl, h, Bool.false_eq_true, if_false]
  rw [vf_fuel n _ _ _ (by omega) (by omega) (Nat.le_refl _)]

inductive U8 : List UInt8 → Prop
  | nil : U8 []
  | step {l : List UInt8} : l ≠ [] → bad l = false → U8 (l.drop (dec l).2) → U8 l

theorem U8.cons {c : UInt8} {r : List UInt8} (h : c.toNat < 128) (hr : U8 r) : U8 (c :: r) := by
  refine .step (by simp) (bad_low c r h) ?_
  rw [dec_low c r h]
  exact hr

theorem U8.tail {c : UInt8} {r : List UInt8} (h : U8 (c :: r)) (hc : c.toNat < 128) : U8 r := by
  cases h with
  | step _ _ h3 =>
    rw [dec_low c r hc] at h3
    exact h3

/-! ### Texts -/

/-- What a quoted text says, and of how many bytes it is: behind the first ". -/
def text : List UInt8 → Option (List UInt8 × Nat)
  | [] => none
  | [c] => if c = 34 then some ([], 1) else none
  | c :: d :: r => if c = 10 then none else if c = 34 then some ([], 1) else if c = 92 then (if d = 34 ∨ d = 92 then (text r).map fun p => (d :: p.1, p.2 + 2) else none) else (text (d :: r)).map fun p => (c :: p.1, p.2 + 1)

def isText (l : List UInt8) : Bool := !l.contains 10 && decide (valid l = l.length)
end Go.Proofs.YtaghogfkkmphoaaDoor.LX

namespace Go.Proofs.YtaghogfkkmphoaaDoor.LX
open Go MW

/-! ### Numbers -/

def natOf (l : List UInt8) : Nat := l.foldl (fun n c => 10 * n + (c.toNat - 48)) 0

/-- A number's digits, without a stroke ahead. -/
def digs (l : List UInt8) : List UInt8 := if l.headD 0 = 45 then l.tail else l

/-- Could it be a number, but for its size? -/
def numForm (l : List UInt8) : Bool := !(digs l).isEmpty && decide ((digs l).length ≤ 19) && (!decide ((digs l).headD 0 = 48) || decide (l = [48])) && (digs l).all dig

def num (l : List UInt8) : Option Int :=
  if numForm l = true then
    if l.headD 0 = 45 then (if natOf (digs l) ≤ 9223372036854775808 then some (-(natOf (digs l) : Int)) else none)
    else if natOf (digs l) < 9223372036854775808 then some (natOf (digs l)) else none
  else none

/-! ### Tokens -/

/-- Those that are no names. -/
def words : List (List UInt8) :=
  [[102, 114, 111, 109], [116, 111], [119, 104, 101, 114, 101], [102, 105, 110, 100], [100, 101, 115, 99], [108, 105, 109, 105, 116], [112, 97, 103, 101], [97, 110, 100], [111, 114], [110, 111, 116], [119, 111, 114, 100], [104, 97, 115], [102, 105, 101, 108, 100], [116, 114, 117, 101], [102, 97, 108, 115, 101]]
def isWord (l : List UInt8) : Bool := words.contains l

structure Tok where
  kind : Nat
  says : List UInt8
  n : Int
  place : Nat

/-- Letters, digits, underlines, as long as it goes on. -/
def run (r : List UInt8) : List UInt8 := r.takeWhile ch

def kindOf (w : List UInt8) : Option (Nat × Int) := if isWord w = true then some (2, 0) else if name w = true then some (1, 0) else (num w).map fun n => (3, n)

/-- The token that begins with c; how many bytes it has. -/
def tok (c : UInt8) (r : List UInt8) : Option (Nat × List UInt8 × Int × Nat) :=
  if c = 61 ∨ c = 40 ∨ c = 41 then some (5, [c], 0, 1)
  else if c = 33 ∧ r.head? = some 61 then some (5, [33, 61], 0, 2)
  else if c = 34 then (text r).map fun p => (4, p.1, 0, p.2 + 1)
  else if c = 45 ∨ ch c = true then (kindOf (c :: run r)).map fun p => (p.1, c :: run r, p.2, (run r).length + 1)
  else none

def lf : Nat → Nat → List UInt8 → Except Nat (List Tok)
  | 0, _, _ => .ok []
  | f + 1, i, l => match l with
    | [] => .ok []
    | c :: r => if c = 32 then lf f (i + 1) r else match tok c r with
      | none => .error (i + 1)
      | some (k, s, n, m) => (lf f (i + m) ((c :: r).drop m)).map (⟨k, s, n, i + 1⟩ :: ·)

/-- All tokens but the last one, of what stands behind i bytes; or where there is none. -/
def toks (i : Nat) (l : List UInt8) : Except Nat (List Tok) := lf l.length i l

/-- What Lex answers: all tokens, or the error's number and its place. -/
def lex (l : List UInt8) : Except (Nat × Nat) (List Tok) :=
  if 1024 < l.length then .error (6, 1)
  else if valid l < l.length then .error (4, valid l + 1)
  else match toks 0 l with
    | .error p => .error (4, p)
    | .ok ts => .ok (ts ++ [⟨0, [], 0, l.length + 1⟩])

/-! ### What a token says, read again -/

end Go.Proofs.YtaghogfkkmphoaaDoor.LX

namespace Go.Proofs.YtaghogfkkmphoaaDoor.LX
open Go MW Lib

end Go.Proofs.YtaghogfkkmphoaaDoor.LX

namespace Go.Proofs.YtaghogfkkmphoaaDoor.LX
open Go MW Lib

end Go.Proofs.YtaghogfkkmphoaaDoor.LX

namespace Go.Proofs.YtaghogfkkmphoaaDoor
open Go.RowKit Go

end Go.Proofs.YtaghogfkkmphoaaDoor
