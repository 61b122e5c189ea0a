/-
  A QUERY's LETTERS AS TOKENS: no program in it.
  A QUERY's LETTERS AS TOKENS: all of them. No program in it.
  A NUMBER's DIGITS ARE ONE TOKEN: no program in it.
  A NUMBER HAS ONE WAY TO BE WRITTEN, AND THAT WAY IS READ BACK: no program in it.
  TOKENS AS THEY LIE: their cells, one after the other.
-/
import Derived.Test.YtkckgjanfiiieaaGreatDoorWdA
import Derived.Lib.ItoaNum
import Derived.Lib.AtoiAll
import Derived.Lib.AtoiAllCases
import Derived.Test.YtkckgjanfiiieaaGreatDoorTrA
namespace Go.Proofs.YtkckgjanfiiieaaGreatDoor.LX
open Go MW

/-! ### What is UTF-8 -/

/-- Does no rune begin here? -/
def bad (l : List UInt8) : Bool := decide ((dec l).1 = 65533) && decide ((dec l).2 = 1)

theorem bad_low (c : UInt8) (r : List UInt8) (h : c.toNat < 128) : bad (c :: r) = false := by
  unfold bad
  rw [dec_low c r h]
  simp
  omega

def vf : Nat → List UInt8 → Nat
  | 0, _ => 0
  | f + 1, l => if l = [] then 0 else if bad l = true then 0 else (dec l).2 + vf f (l.drop (dec l).2)

theorem vf_fuel : ∀ (n : Nat) (l : List UInt8) (f g : Nat), l.length ≤ n → l.length ≤ f → l.length ≤ g → vf f l = vf g l := by
  intro n
  induction n with
  | zero =>
    intro l f g h _ _
    obtain rfl := List.length_eq_zero_iff.1 (Nat.le_zero.1 h)
    cases f <;> cases g <;> simp [vf]
  | succ n ih =>
    intro l f g h hf hg
    by_cases hl : l = []
    · subst hl; cases f <;> cases g <;> simp [vf]
    · have hd := drop_lt l hl
      have hp := List.length_pos_iff.2 hl
      obtain ⟨f, rfl⟩ : ∃ k, f = k + 1 := ⟨f - 1, by omega⟩
      obtain ⟨g, rfl⟩ : ∃ k, g = k + 1 := ⟨g - 1, by omega⟩
      simp only [vf, if_neg hl]
      rw [ih _ f g (by omega) (by omega) (by omega)]

/-- How many bytes, from the first one on, are UTF-8. -/
def valid (l : List UInt8) : Nat := vf l.length l
theorem valid_bad (l : List UInt8) (h : bad l = true) : valid l = 0 := by
  unfold valid
  cases hl : l.length with
  | zero => rfl
  | succ n => simp [vf, h]
theorem valid_step (l : List UInt8) (hl : l ≠ []) (h : bad l = false) : valid l = (dec l).2 + valid (l.drop (dec l).2) := by
  have hd := drop_lt l hl
  have hp := List.length_pos_iff.2 hl
  unfold valid
  obtain ⟨n, hn⟩ : ∃ n, l.length = n + 1 := ⟨l.length - 1, by omega⟩
  rw [hn]
  simp only [vf, if_neg hl, h, Bool.false_eq_true, if_false]
  rw [vf_fuel n _ _ _ (by omega) (by omega) (Nat.le_refl _)]

inductive U8 : List UInt8 → Prop
  | nil : U8 []
  | step {l : List UInt8} : l ≠ [] → bad l = false → U8 (l.drop (dec l).2) → U8 l

theorem valid_le : ∀ (n : Nat) (l : List UInt8), l.length ≤ n → valid l ≤ l.length ∧ (valid l = l.length ↔ U8 l) := by
  intro n
  induction n with
  | zero =>
    intro l h
    obtain rfl := List.length_eq_zero_iff.1 (Nat.le_zero.1 h)
    exact ⟨Nat.le_refl _, fun _ => .nil, fun _ => rfl⟩
  | succ n ih =>
    intro l h
    by_cases hl : l = []
    · subst hl
      exact ⟨Nat.le_refl _, fun _ => .nil, fun _ => rfl⟩
    have hp := List.length_pos_iff.2 hl
    have hd := drop_lt l hl
    have hle := dec_le l hl
    cases hb : bad l with
    | true =>
      rw [valid_bad l hb]
      refine ⟨Nat.zero_le _, fun e => by omega, fun hu => ?_⟩
      cases hu with
      | nil => exact absurd rfl hl
      | step _ h1 _ => rw [hb] at h1; cases h1
    | false =>
      obtain ⟨h1, h2⟩ := ih (l.drop (dec l).2) (by omega)
      rw [valid_step l hl hb]
      rw [List.length_drop] at h1 h2
      refine ⟨by omega, fun e => .step hl hb (h2.1 (by omega)), fun hu => ?_⟩
      cases hu with
      | nil => exact absurd rfl hl
      | step _ _ h3 => have := h2.2 h3; omega

theorem u8_iff (l : List UInt8) : valid l = l.length ↔ U8 l := (valid_le _ l (Nat.le_refl _)).2

/-- A rune stands for itself, whatever is behind it; its bytes, but a lone one, are no ASCII. -/
theorem dec_keep (l : List UInt8) (hl : l ≠ []) (h : bad l = false) : (∀ q, dec (l.take (dec l).2 ++ q) = dec l) ∧ ((∃ c r, l = c :: r ∧ c.toNat < 128 ∧ (dec l).2 = 1) ∨ ∀ c ∈ l.take (dec l).2, 128 ≤ c.toNat) := by
  have hne : ¬ ((dec l).1 = 65533 ∧ (dec l).2 = 1) := fun ⟨a, b⟩ => by unfold bad at h; rw [a, b] at h; simp at h
  clear h
  revert hne
  have key : ∀ n b0 b1 b2 b3, ¬ ((Lib.decodeN n b0 b1 b2 b3).1 = 65533 ∧ (Lib.decodeN n b0 b1 b2 b3).2 = 1) →
      (b0 < 128 ∧ Lib.decodeN n b0 b1 b2 b3 = (b0, 1)) ∨ (∃ c, 128 ≤ b0 ∧ 128 ≤ b1 ∧ 1 < n ∧ Lib.decodeN n b0 b1 b2 b3 = (c, 2) ∧ ∀ m x y, 1 < m → Lib.decodeN m b0 b1 x y = (c, 2)) ∨
      (∃ c, 128 ≤ b0 ∧ 128 ≤ b1 ∧ 128 ≤ b2 ∧ 2 < n ∧ Lib.decodeN n b0 b1 b2 b3 = (c, 3) ∧ ∀ m y, 2 < m → Lib.decodeN m b0 b1 b2 y = (c, 3)) ∨ (∃ c, 128 ≤ b0 ∧ 128 ≤ b1 ∧ 128 ≤ b2 ∧ 128 ≤ b3 ∧ 3 < n ∧ Lib.decodeN n b0 b1 b2 b3 = (c, 4) ∧ ∀ m, 3 < m → Lib.decodeN m b0 b1 b2 b3 = (c, 4)) := by
    intro n b0 b1 b2 b3
    unfold Lib.decodeN
    by_cases h0 : b0 < 128
    · intro _; exact .inl ⟨h0, by rw [if_pos h0]⟩
    rw [if_neg h0]
    by_cases h1 : b0 / 32 = 6 ∧ (1 < n ∧ b1 / 64 = 2)
    · rw [if_pos h1]
      split
      · rename_i hc
        intro _
        exact .inr (.inl ⟨_, by omega, by omega, h1.2.1, rfl, fun m x y hm => by rw [if_pos ⟨h1.1, hm, h1.2.2⟩]⟩)
      · intro h; exact absurd ⟨rfl, rfl⟩ h
    rw [if_neg h1]
    by_cases h2 : b0 / 16 = 14 ∧ (1 < n ∧ b1 / 64 = 2) ∧ (2 < n ∧ b2 / 64 = 2)
    · rw [if_pos h2]
      split
      · rename_i hc
        intro _
        refine .inr (.inr (.inl ⟨_, by omega, by omega, by omega, h2.2.2.1, rfl, fun m y hm => ?_⟩))
        rw [if_neg (by omega), if_pos ⟨h2.1, ⟨by omega, h2.2.1.2⟩, hm, h2.2.2.2⟩]
      · intro h; exact absurd ⟨rfl, rfl⟩ h
    rw [if_neg h2]
    by_cases h3 : b0 / 8 = 30 ∧ (1 < n ∧ b1 / 64 = 2) ∧ (2 < n ∧ b2 / 64 = 2) ∧ (3 < n ∧ b3 / 64 = 2)
    · rw [if_pos h3]
      split
      · rename_i hc
        intro _
        refine .inr (.inr (.inr ⟨_, by omega, by omega, by omega, by omega, h3.2.2.2.1, rfl, fun m hm => ?_⟩))
        rw [if_neg (by omega), if_neg (by omega), if_pos ⟨h3.1, ⟨by omega, h3.2.1.2⟩, ⟨by omega, h3.2.2.1.2⟩, hm, h3.2.2.2.2⟩]
      · intro h; exact absurd ⟨rfl, rfl⟩ h
    rw [if_neg h3]
    intro h; exact absurd ⟨rfl, rfl⟩ h
  intro hne
  rcases key _ _ _ _ _ hne with ⟨h0, e⟩ | ⟨c, g0, g1, hn, e, hr⟩ | ⟨c, g0, g1, g2, hn, e, hr⟩ | ⟨c, g0, g1, g2, g3, hn, e, hr⟩
  · have e' : dec l = _ := e
    match l, hl with
    | a :: r, _ =>
      have h0' : a.toNat < 128 := by simpa using h0
      refine ⟨fun q => ?_, .inl ⟨a, r, rfl, h0', by rw [e']⟩⟩
      rw [e']
      simp [dec, Lib.decodeN, h0']
  · have e' : dec l = _ := e
    match l, hn with
    | a :: b :: r, _ =>
      rw [e']
      refine ⟨fun q => hr _ _ _ (by simp), .inr fun x hx => ?_⟩
      simp at hx g0 g1
      rcases hx with rfl | rfl <;> assumption
  · have e' : dec l = _ := e
    match l, hn with
    | a :: b :: c :: r, _ =>
      rw [e']
      refine ⟨fun q => hr _ _ (by simp), .inr fun x hx => ?_⟩
      simp at hx g0 g1 g2
      rcases hx with rfl | rfl | rfl <;> assumption
  · have e' : dec l = _ := e
    match l, hn with
    | a :: b :: c :: d :: r, _ =>
      rw [e']
      refine ⟨fun q => hr _ (by simp), .inr fun x hx => ?_⟩
      simp at hx g0 g1 g2 g3
      rcases hx with rfl | rfl | rfl | rfl <;> assumption

theorem bad_keep (l : List UInt8) (hl : l ≠ []) (h : bad l = false) (q : List UInt8) : bad (l.take (dec l).2 ++ q) = false := by
  unfold bad
  rw [(dec_keep l hl h).1 q]
  exact h

/-- A rune ahead of what is UTF-8. -/
theorem U8.rune {l q : List UInt8} (hl : l ≠ []) (h : bad l = false) (hq : U8 q) : U8 (l.take (dec l).2 ++ q) := by
  have hd := dec_pos l
  have hle := dec_le l hl
  refine .step ?_ (bad_keep l hl h q) ?_
  · intro e
    have := congrArg List.length e
    simp only [List.length_append, List.length_take, List.length_nil] at this
    omega
  · rw [(dec_keep l hl h).1 q, List.drop_append_of_le_length (by rw [List.length_take]; omega), List.drop_eq_nil_of_le (by rw [List.length_take]; omega), List.nil_append]
    exact hq

theorem U8.append {a b : List UInt8} (ha : U8 a) (hb : U8 b) : U8 (a ++ b) := by
  induction ha with
  | nil => exact hb
  | @step l hl h _ ih =>
    rw [← List.take_append_drop (dec l).2 l, List.append_assoc]
    exact U8.rune hl h ih

theorem U8.cons {c : UInt8} {r : List UInt8} (h : c.toNat < 128) (hr : U8 r) : U8 (c :: r) := by
  refine .step (by simp) (bad_low c r h) ?_
  rw [dec_low c r h]
  exact hr

theorem U8.tail {c : UInt8} {r : List UInt8} (h : U8 (c :: r)) (hc : c.toNat < 128) : U8 r := by
  cases h with
  | step _ _ h3 =>
    rw [dec_low c r hc] at h3
    exact h3

theorem U8.low {l : List UInt8} (h : l.all low = true) : U8 l := by
  induction l with
  | nil => exact .nil
  | cons c r ih =>
    rw [List.all_cons, Bool.and_eq_true] at h
    exact U8.cons (of_decide_eq_true h.1) (ih h.2)

/-! ### Texts -/

/-- What a quoted text says, and of how many bytes it is: behind the first ". -/
def text : List UInt8 → Option (List UInt8 × Nat)
  | [] => none
  | [c] => if c = 34 then some ([], 1) else none
  | c :: d :: r => if c = 10 then none else if c = 34 then some ([], 1) else if c = 92 then (if d = 34 ∨ d = 92 then (text r).map fun p => (d :: p.1, p.2 + 2) else none) else (text (d :: r)).map fun p => (c :: p.1, p.2 + 1)

theorem text_lf (r : List UInt8) : text (10 :: r) = none := by
  cases r with
  | nil => simp [text]
  | cons d r => simp [text]
theorem text_end (r : List UInt8) : text (34 :: r) = some ([], 1) := by
  cases r with
  | nil => simp [text]
  | cons d r => simp [text]
theorem text_esc (d : UInt8) (r : List UInt8) : text (92 :: d :: r) = if d = 34 ∨ d = 92 then (text r).map fun p => (d :: p.1, p.2 + 2) else none := by
  rw [text, if_neg (by decide), if_neg (by decide), if_pos rfl]
theorem text_esc0 : text [92] = none := by simp [text]
theorem text_other (c : UInt8) (r : List UInt8) (h1 : c ≠ 10) (h2 : c ≠ 34) (h3 : c ≠ 92) : text (c :: r) = (text r).map fun p => (c :: p.1, p.2 + 1) := by
  cases r with
  | nil => simp [text, h2]
  | cons d r => rw [text, if_neg h1, if_neg h2, if_neg h3]

/-- A text's letters, with a stroke ahead of each sign that needs one. -/
def esc : List UInt8 → List UInt8
  | [] => []
  | c :: r => if c = 34 ∨ c = 92 then 92 :: c :: esc r else c :: esc r

def isText (l : List UInt8) : Bool := !l.contains 10 && decide (valid l = l.length)
def quote (l : List UInt8) : List UInt8 := if isText l = true then 34 :: (esc l ++ [34]) else []

theorem esc_append : ∀ a b : List UInt8, esc (a ++ b) = esc a ++ esc b
  | [], _ => rfl
  | c :: r, b => by
    simp only [List.cons_append, esc, esc_append r b]
    split <;> rfl

theorem esc_len : ∀ l : List UInt8, l.length ≤ (esc l).length ∧ (esc l).length ≤ 2 * l.length
  | [] => by simp [esc]
  | c :: r => by
    have := esc_len r
    simp only [esc]
    split <;> simp only [List.length_cons] <;> omega

theorem esc_high : ∀ l : List UInt8, (∀ c ∈ l, 128 ≤ c.toNat) → esc l = l
  | [], _ => rfl
  | c :: r, h => by
    have hc := h c (by simp)
    have h34 : c ≠ 34 := fun e => by subst e; exact absurd hc (by decide)
    have h92 : c ≠ 92 := fun e => by subst e; exact absurd hc (by decide)
    rw [esc, if_neg (by simp [h34, h92]), esc_high r fun x hx => h x (by simp [hx])]

theorem text_quote (q : List UInt8) : ∀ l : List UInt8, l.contains 10 = false → text (esc l ++ 34 :: q) = some (l, (esc l).length + 1)
  | [], _ => by rw [esc, List.nil_append, text_end]; rfl
  | c :: r, h => by
    have h1 : c ≠ 10 := fun e => by subst e; simp at h
    have h2 : r.contains 10 = false := by
      rw [List.contains_cons, Bool.or_eq_false_iff] at h
      exact h.2
    have ih := text_quote q r h2
    by_cases hc : c = 34 ∨ c = 92
    · rw [esc, if_pos hc, List.cons_append, List.cons_append, text_esc, if_pos hc, ih]
      rfl
    · have h34 : c ≠ 34 := fun e => hc (.inl e)
      have h92 : c ≠ 92 := fun e => hc (.inr e)
      rw [esc, if_neg hc, List.cons_append, text_other c _ h1 h34 h92, ih]
      rfl

/-- What a text says, quoted, is the letters that it was read from. -/
theorem text_back : ∀ (n : Nat) (l s : List UInt8) (m : Nat), l.length ≤ n → text l = some (s, m) → s.contains 10 = false ∧ 1 ≤ m ∧ m ≤ l.length ∧ l.take m = esc s ++ [34] := by
  intro n
  induction n with
  | zero =>
    intro l s m h ht
    obtain rfl := List.length_eq_zero_iff.1 (Nat.le_zero.1 h)
    simp [text] at ht
  | succ n ih =>
    intro l s m h ht
    match l, h, ht with
    | [], _, ht => simp [text] at ht
    | c :: r, h, ht =>
      simp only [List.length_cons] at h
      by_cases h1 : c = 10
      · subst h1; rw [text_lf] at ht; cases ht
      by_cases h2 : c = 34
      · subst h2
        rw [text_end] at ht
        simp only [Option.some.injEq, Prod.mk.injEq] at ht
        obtain ⟨rfl, rfl⟩ := ht
        exact ⟨rfl, Nat.le_refl _, by simp, by simp [esc]⟩
      by_cases h3 : c = 92
      · subst h3
        match r, h, ht with
        | [], _, ht => rw [text_esc0] at ht; cases ht
        | d :: r, h, ht =>
          rw [text_esc] at ht
          split at ht
          · rename_i hd
            rw [Option.map_eq_some_iff] at ht
            obtain ⟨⟨s', m'⟩, ht2, he⟩ := ht
            simp only [Prod.mk.injEq] at he
            obtain ⟨rfl, rfl⟩ := he
            simp only [List.length_cons] at h
            obtain ⟨g1, g2, g3, g4⟩ := ih r s' m' (by omega) ht2
            have hd10 : d ≠ 10 := by rcases hd with rfl | rfl <;> decide
            refine ⟨?_, by omega, by simp only [List.length_cons]; omega, ?_⟩
            · rw [List.contains_cons, g1, Bool.or_false]
              simpa using fun e : (10 : UInt8) = d => hd10 e.symm
            · rw [List.take_succ_cons, List.take_succ_cons, g4, esc, if_pos hd]
              rfl
          · cases ht
      · rw [text_other c r h1 h2 h3, Option.map_eq_some_iff] at ht
        obtain ⟨⟨s', m'⟩, ht2, he⟩ := ht
        simp only [Prod.mk.injEq] at he
        obtain ⟨rfl, rfl⟩ := he
        obtain ⟨g1, g2, g3, g4⟩ := ih r s' m' (by omega) ht2
        refine ⟨?_, by omega, by simp only [List.length_cons]; omega, ?_⟩
        · rw [List.contains_cons, g1, Bool.or_false]
          simpa using fun e : (10 : UInt8) = c => h1 e.symm
        · rw [List.take_succ_cons, g4, esc, if_neg (by simp [h2, h3])]
          rfl

theorem text_high (q : List UInt8) : ∀ l : List UInt8, (∀ c ∈ l, 128 ≤ c.toNat) → text (l ++ q) = (text q).map fun p => (l ++ p.1, p.2 + l.length)
  | [], _ => by simp
  | c :: r, h => by
    have hc := h c (by simp)
    have h10 : c ≠ 10 := fun e => by subst e; exact absurd hc (by decide)
    have h34 : c ≠ 34 := fun e => by subst e; exact absurd hc (by decide)
    have h92 : c ≠ 92 := fun e => by subst e; exact absurd hc (by decide)
    rw [List.cons_append, text_other c _ h10 h34 h92, text_high q r fun x hx => h x (by simp [hx]), Option.map_map]
    rfl

end Go.Proofs.YtkckgjanfiiieaaGreatDoor.LX

namespace Go.Proofs.YtkckgjanfiiieaaGreatDoor.LX
open Go MW

/-! ### Numbers -/

def natOf (l : List UInt8) : Nat := l.foldl (fun n c => 10 * n + (c.toNat - 48)) 0

/-- A number's digits, without a stroke ahead. -/
def digs (l : List UInt8) : List UInt8 := if l.headD 0 = 45 then l.tail else l

/-- Could it be a number, but for its size? -/
def numForm (l : List UInt8) : Bool := !(digs l).isEmpty && decide ((digs l).length ≤ 19) && (!decide ((digs l).headD 0 = 48) || decide (l = [48])) && (digs l).all dig

def num (l : List UInt8) : Option Int :=
  if numForm l = true then
    if l.headD 0 = 45 then (if natOf (digs l) ≤ 9223372036854775808 then some (-(natOf (digs l) : Int)) else none)
    else if natOf (digs l) < 9223372036854775808 then some (natOf (digs l)) else none
  else none

/-! ### Tokens -/

/-- Those that are no names. -/
def words : List (List UInt8) :=
  [[102, 114, 111, 109], [116, 111], [119, 104, 101, 114, 101], [102, 105, 110, 100], [100, 101, 115, 99], [108, 105, 109, 105, 116], [112, 97, 103, 101], [97, 110, 100], [111, 114], [110, 111, 116], [119, 111, 114, 100], [104, 97, 115], [102, 105, 101, 108, 100], [116, 114, 117, 101], [102, 97, 108, 115, 101]]
def isWord (l : List UInt8) : Bool := words.contains l

theorem word_name {l : List UInt8} (h : isWord l = true) : name l = true := by
  have : ∀ x ∈ words, name x = true := by decide
  exact this l (List.contains_iff_mem.1 h)

structure Tok where
  kind : Nat
  says : List UInt8
  n : Int
  place : Nat

/-- Letters, digits, underlines, as long as it goes on. -/
def run (r : List UInt8) : List UInt8 := r.takeWhile ch

def kindOf (w : List UInt8) : Option (Nat × Int) := if isWord w = true then some (2, 0) else if name w = true then some (1, 0) else (num w).map fun n => (3, n)

/-- The token that begins with c; how many bytes it has. -/
def tok (c : UInt8) (r : List UInt8) : Option (Nat × List UInt8 × Int × Nat) :=
  if c = 61 ∨ c = 40 ∨ c = 41 then some (5, [c], 0, 1)
  else if c = 33 ∧ r.head? = some 61 then some (5, [33, 61], 0, 2)
  else if c = 34 then (text r).map fun p => (4, p.1, 0, p.2 + 1)
  else if c = 45 ∨ ch c = true then (kindOf (c :: run r)).map fun p => (p.1, c :: run r, p.2, (run r).length + 1)
  else none

theorem run_le (r : List UInt8) : (run r).length ≤ r.length := (List.takeWhile_sublist _).length_le

theorem tok_len {c : UInt8} {r : List UInt8} {k m : Nat} {s : List UInt8} {n : Int} (h : tok c r = some (k, s, n, m)) : 1 ≤ m ∧ m ≤ r.length + 1 := by
  unfold tok at h
  split at h
  · simp only [Option.some.injEq, Prod.mk.injEq] at h
    omega
  split at h
  · rename_i h2
    simp only [Option.some.injEq, Prod.mk.injEq] at h
    cases r with
    | nil => simp at h2
    | cons d r => simp only [List.length_cons]; omega
  split at h
  · rw [Option.map_eq_some_iff] at h
    obtain ⟨⟨s', m'⟩, ht, he⟩ := h
    simp only [Prod.mk.injEq] at he
    have := text_back _ r s' m' (Nat.le_refl _) ht
    omega
  split at h
  · rw [Option.map_eq_some_iff] at h
    obtain ⟨⟨k', n'⟩, _, he⟩ := h
    simp only [Prod.mk.injEq] at he
    have := run_le r
    omega
  · cases h

def lf : Nat → Nat → List UInt8 → Except Nat (List Tok)
  | 0, _, _ => .ok []
  | f + 1, i, l => match l with
    | [] => .ok []
    | c :: r => if c = 32 then lf f (i + 1) r else match tok c r with
      | none => .error (i + 1)
      | some (k, s, n, m) => (lf f (i + m) ((c :: r).drop m)).map (⟨k, s, n, i + 1⟩ :: ·)

theorem lf_fuel : ∀ (x : Nat) (l : List UInt8) (i f g : Nat), l.length ≤ x → l.length ≤ f → l.length ≤ g → lf f i l = lf g i l := by
  intro x
  induction x with
  | zero =>
    intro l i f g h _ _
    obtain rfl := List.length_eq_zero_iff.1 (Nat.le_zero.1 h)
    cases f <;> cases g <;> simp [lf]
  | succ x ih =>
    intro l i f g h hf hg
    cases l with
    | nil => cases f <;> cases g <;> simp [lf]
    | cons c r =>
      simp only [List.length_cons] at h hf hg
      obtain ⟨f, rfl⟩ : ∃ k, f = k + 1 := ⟨f - 1, by omega⟩
      obtain ⟨g, rfl⟩ : ∃ k, g = k + 1 := ⟨g - 1, by omega⟩
      simp only [lf]
      split
      · exact ih _ _ _ _ (by omega) (by omega) (by omega)
      · split
        · rfl
        · rename_i k s n m ht
          have := tok_len ht
          rw [ih _ _ f g (by simp only [List.length_drop, List.length_cons]; omega) (by simp only [List.length_drop, List.length_cons]; omega) (by simp only [List.length_drop, List.length_cons]; omega)]

/-- All tokens but the last one, of what stands behind i bytes; or where there is none. -/
def toks (i : Nat) (l : List UInt8) : Except Nat (List Tok) := lf l.length i l

theorem toks_nil (i : Nat) : toks i [] = .ok [] := rfl
theorem toks_blank (i : Nat) (r : List UInt8) : toks i (32 :: r) = toks (i + 1) r := by
  unfold toks
  simp only [List.length_cons, lf, if_true]
theorem toks_some {i : Nat} {c : UInt8} {r : List UInt8} (hc : c ≠ 32) {k m : Nat} {s : List UInt8} {n : Int} (h : tok c r = some (k, s, n, m)) : toks i (c :: r) = (toks (i + m) ((c :: r).drop m)).map (⟨k, s, n, i + 1⟩ :: ·) := by
  have := tok_len h
  unfold toks
  simp only [List.length_cons, lf, if_neg hc, h]
  rw [lf_fuel r.length _ _ _ _ (by simp only [List.length_drop, List.length_cons]; omega) (by simp only [List.length_drop, List.length_cons]; omega) (Nat.le_refl _)]

/-- What Lex answers: all tokens, or the error's number and its place. -/
def lex (l : List UInt8) : Except (Nat × Nat) (List Tok) :=
  if 1024 < l.length then .error (6, 1)
  else if valid l < l.length then .error (4, valid l + 1)
  else match toks 0 l with
    | .error p => .error (4, p)
    | .ok ts => .ok (ts ++ [⟨0, [], 0, l.length + 1⟩])

/-! ### What a token says, read again -/

/-- A token's letters. -/
def Tok.letters (t : Tok) : List UInt8 := if t.kind = 4 then quote t.says else t.says

theorem quote_of {s : List UInt8} (h : isText s = true) : quote s = 34 :: (esc s ++ [34]) := if_pos h

/-- A token, but for its place. -/
def Tok.bare (t : Tok) : Nat × List UInt8 × Int := (t.kind, t.says, t.n)

theorem toks_blanks (q : List UInt8) : ∀ (b i : Nat), toks i (List.replicate b 32 ++ q) = toks (i + b) q
  | 0, i => rfl
  | b + 1, i => by
    rw [List.replicate_succ, List.cons_append, toks_blank, toks_blanks q b (i + 1)]
    congr 1
    omega

theorem name_parts {s : List UInt8} (h : name s = true) : ∃ c r, s = c :: r ∧ s.length ≤ 20 ∧ s.all ch = true ∧ dig c = false := by
  unfold name at h
  cases s with
  | nil => simp at h
  | cons c r =>
    simp only [Bool.and_eq_true, decide_eq_true_eq, Bool.not_eq_true', List.headD_cons] at h
    exact ⟨c, r, rfl, h.1.1.2, h.2, h.1.2⟩

end Go.Proofs.YtkckgjanfiiieaaGreatDoor.LX

namespace Go.Proofs.YtkckgjanfiiieaaGreatDoor.LX
open Go MW Lib

theorem digit_nat (d : Nat) (h : d < 10) : (UInt8.ofNat (48 + d)).toNat = 48 + d := by
  rw [UInt8.toNat_ofNat']
  omega

theorem decDigits_ne (u : Nat) : decDigits u ≠ [] := by
  rw [decDigits]
  split <;> simp

theorem decDigits_all (u : Nat) : (decDigits u).all dig = true := by
  induction u using Nat.strongRecOn with
  | _ u ih =>
    have hd : ∀ d, d < 10 → dig (UInt8.ofNat (48 + d)) = true := fun d hd => by
      unfold dig
      rw [digit_nat d hd]
      simp
      omega
    rw [decDigits]
    split
    · rename_i h
      simp only [List.all_cons, List.all_nil, Bool.and_true]
      exact hd u h
    · rename_i h
      rw [List.all_append, ih (u / 10) (by omega), Bool.true_and]
      simp only [List.all_cons, List.all_nil, Bool.and_true]
      exact hd _ (by omega)

theorem natOf_snoc (a : List UInt8) (c : UInt8) : natOf (a ++ [c]) = 10 * natOf a + (c.toNat - 48) := by simp [natOf]

theorem decDigits_nat (u : Nat) : natOf (decDigits u) = u := by
  induction u using Nat.strongRecOn with
  | _ u ih =>
    rw [decDigits]
    split
    · rename_i h
      simp only [natOf, List.foldl_cons, List.foldl_nil]
      rw [digit_nat u h]
      omega
    · rename_i h
      rw [natOf_snoc, ih (u / 10) (by omega), digit_nat _ (by omega)]
      omega

theorem nDigits_le : ∀ (k u : Nat), u < 10 ^ (k + 1) → nDigits u ≤ k + 1
  | 0, u, h => by rw [nDigits_small (by simpa using h)]; omega
  | k + 1, u, h => by
    by_cases hs : u < 10
    · rw [nDigits_small hs]; omega
    · rw [nDigits_big hs]
      have := nDigits_le k (u / 10) (by rw [Nat.pow_succ] at h; omega)
      omega

theorem decDigits_head (u : Nat) : 1 ≤ u → (decDigits u).headD 0 ≠ 48 := by
  induction u using Nat.strongRecOn with
  | _ u ih =>
    intro h1
    rw [decDigits]
    split
    · rename_i h
      intro e
      rw [List.headD_cons] at e
      have := congrArg UInt8.toNat e
      rw [digit_nat u h] at this
      have h48 : (48 : UInt8).toNat = 48 := rfl
      omega
    · rename_i h
      have := ih (u / 10) (by omega) (by omega)
      cases hd : decDigits (u / 10) with
      | nil => exact absurd hd (decDigits_ne _)
      | cons a r => rw [hd] at this; exact this

theorem dig_ch (c : UInt8) (h : dig c = true) : ch c = true := by
  unfold dig at h
  unfold ch
  rw [h]
  simp

theorem itoa_parts (n : Int) (h0 : -9223372036854775808 ≤ n) (h1 : n ≤ 9223372036854775807) :
    num (itoa n) = some n ∧ (itoa n).length ≤ 20 ∧ ∃ c r, itoa n = c :: r ∧ r.all ch = true ∧ (c = 45 ∨ dig c = true) := by
  unfold itoa
  split
  · rename_i hn
    have hu : n.natAbs ≤ 9223372036854775808 := by omega
    have hl : (decDigits n.natAbs).length ≤ 19 := by
      rw [decDigits_length]
      exact nDigits_le 18 _ (by omega)
    refine ⟨?_, by simp only [List.length_cons]; omega, 45, _, rfl, List.all_eq_true.2 fun x hx => dig_ch x (List.all_eq_true.1 (decDigits_all _) x hx), .inl rfl⟩
    have hf : numForm (45 :: decDigits n.natAbs) = true := by
      unfold numForm
      have hd : digs (45 :: decDigits n.natAbs) = decDigits n.natAbs := rfl
      rw [hd, decDigits_all, decide_eq_true hl, decide_eq_false (decDigits_head _ (by omega))]
      simp [decDigits_ne]
    unfold num
    have hd : digs (45 :: decDigits n.natAbs) = decDigits n.natAbs := rfl
    rw [if_pos hf, if_pos (show (45 :: decDigits n.natAbs).headD 0 = 45 from rfl), hd, decDigits_nat, if_pos hu]
    congr 1
    omega
  · rename_i hn
    have hl : (decDigits n.toNat).length ≤ 19 := by
      rw [decDigits_length]
      exact nDigits_le 18 _ (by omega)
    have hall := decDigits_all n.toNat
    have hnat := decDigits_nat n.toNat
    have hhead := decDigits_head n.toNat
    have hz : n.toNat = 0 → decDigits n.toNat = [48] := fun e => by rw [e, decDigits]; rfl
    cases hd : decDigits n.toNat with
    | nil => exact absurd hd (decDigits_ne _)
    | cons c r =>
      rw [hd] at hl hall hnat hhead hz
      rw [List.all_cons, Bool.and_eq_true] at hall
      have hc45 : c ≠ 45 := fun e => by rw [e] at hall; exact absurd hall.1 (by decide)
      have hdg : digs (c :: r) = c :: r := if_neg hc45
      refine ⟨?_, by omega, c, r, rfl, List.all_eq_true.2 fun x hx => dig_ch x (List.all_eq_true.1 hall.2 x hx), .inr hall.1⟩
      have hf : numForm (c :: r) = true := by
        unfold numForm
        rw [hdg, List.all_cons, hall.1, hall.2, decide_eq_true hl]
        by_cases e : n.toNat = 0
        · rw [hz e]; rfl
        · rw [decide_eq_false (hhead (by omega))]; rfl
      unfold num
      rw [if_pos hf, if_neg (by simpa using hc45), hdg, hnat, if_pos (by omega)]
      congr 1
      omega

end Go.Proofs.YtkckgjanfiiieaaGreatDoor.LX

namespace Go.Proofs.YtkckgjanfiiieaaGreatDoor.LX
open Go MW Lib

end Go.Proofs.YtkckgjanfiiieaaGreatDoor.LX

namespace Go.Proofs.YtkckgjanfiiieaaGreatDoor
open Go.RowKit Go

/-- A token's cells. -/
def tokC (t : LX.Tok) : List Value := [.int .i64 (t.kind : Nat), .string ⟨t.says.toArray⟩, .int .i64 t.n, .int .i64 (t.place : Nat)]
def flatT : List LX.Tok → List Value
  | [] => []
  | t :: r => tokC t ++ flatT r

theorem str_of {a : ByteArray} {l : List UInt8} (h : a.data.toList = l) : a = ⟨l.toArray⟩ := by
  subst h
  cases a
  rfl

/-- A token's block. -/
def Box (g : Nat) (W : World) (a b c d : Value) : Prop :=
  g < W.heap.size ∧ W.cell? ⟨g, 0, none⟩ = some a ∧ W.cell? ⟨g, 1, none⟩ = some b ∧ W.cell? ⟨g, 2, none⟩ = some c ∧ W.cell? ⟨g, 3, none⟩ = some d ∧ ∀ j, W.frozen? ⟨g, j, none⟩ = false

theorem Box.new (wr : World) (a b c d : Value) : ∃ W0 g, W0 = wr.alloc (.cells #[a, b, c, d] 10036) ∧ g = wr.heap.size ∧ Lay wr W0 ∧ Box g W0 a b c d :=
  ⟨_, _, rfl, rfl, (Keep.refl _ _).alloc _, by simp, World.cell?_alloc_new .., World.cell?_alloc_new .., World.cell?_alloc_new .., World.cell?_alloc_new .., fun j => World.frozen?_alloc_new ..⟩

theorem Box.lay {g : Nat} {W W' : World} {a b c d : Value} (h : Box g W a b c d) (hl : Lay W W') : Box g W' a b c d := by
  obtain ⟨h0, h1, h2, h3, h4, h5⟩ := h
  exact ⟨Nat.lt_of_lt_of_le h0 hl.size, (hl.cell h0).trans h1, (hl.cell h0).trans h2, (hl.cell h0).trans h3, (hl.cell h0).trans h4, fun j => (World.frozen?_of_block (a := ⟨g, j, none⟩) (hl.block h0)).trans (h5 j)⟩

theorem Box.set1 {g : Nat} {W : World} {a b c d : Value} (h : Box g W a b c d) (x : Value) : Box g (W.setCell ⟨g, 1, none⟩ x) a x c d := by
  obtain ⟨h0, h1, h2, h3, h4, h5⟩ := h
  refine ⟨by simpa [World.setCell] using h0, ?_, ?_, ?_, ?_, fun j => ?_⟩
  all_goals go_simp

end Go.Proofs.YtkckgjanfiiieaaGreatDoor
