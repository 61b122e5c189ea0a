/-
  A QUERY's LETTERS AS TOKENS: no program in it.
  A QUERY's LETTERS AS TOKENS: all of them. No program in it.
  A NUMBER's DIGITS ARE ONE TOKEN: no program in it.
  A NUMBER HAS ONE WAY TO BE WRITTEN, AND THAT WAY IS READ BACK: no program in it.
  TOKENS AS THEY LIE: their cells, one after the other.
-/
import Derived.Test.YtmodiemmcdocdaaDoorWdA
import Derived.Lib.ItoaNum
import Derived.Lib.AtoiAll
import Derived.Lib.AtoiAllCases
import Derived.Test.YtmodiemmcdocdaaDoorTrA
namespace Go.Proofs.YtmodiemmcdocdaaDoor.LX
open Go MW

/-! ### What is UTF-8 -/

/-- Does no rune begin here? -/
def bad (l : List UInt8) : Bool := decide ((dec l).1 = 65533) && decide ((dec l).2 = 1)

theorem bad_low (c : UInt8) (r : List UInt8) (h : c.toNat < 128) : bad (c :: r) = false := by
  unfold bad
  rw [dec_low c r h]
  simp
  omega

def vf : Nat → List UInt8 → Nat
  | 0, _ => 0
  | f + 1, l => if l = [] then 0 else if bad l = true then 0 else (dec l).2 + vf f (l.drop (dec l).2)

theorem vf_fuel : ∀ (n : Nat) (l : List UInt8) (f g : Nat), l.length ≤ n → l.length ≤ f → l.length ≤ g → vf f l = vf g l := by
  intro n
  induction n with
  | zero =>
    intro l f g h _ _
    obtain rfl := List.length_eq_zero_iff.1 (Nat.le_zero.1 h)
    cases f <;> cases g <;> simp [vf]
  | succ n ih =>
    intro l f g h hf hg
    by_cases hl : l = []
    · subst hl; cases f <;> cases g <;> simp [vf]
    · have hd := drop_lt l hl
      have hp := List.length_pos_iff.2 hl
      obtain ⟨f, rfl⟩ : ∃ k, f = k + 1 := ⟨f - 1, by omega⟩
      obtain ⟨g, rfl⟩ : ∃ k, g = k + 1 := ⟨g - 1, by omega⟩
      simp only [vf, if_neg hl]
      rw [ih _ f g (by omega) (by omega) (by omega)]

/-- How many bytes, from the first one on, are UTF-8. -/
def valid (l : List UInt8) : Nat := vf l.length l
theorem valid_nil : valid [] = 0 := rfl
theorem valid_bad (l : List UInt8) (h : bad l = true) : valid l = 0 := by
  unfold valid
  cases hl : l.length with
  | zero => rfl
  | succ n => simp [vf, h]
theorem valid_step (l : List UInt8) (hl : l ≠ []) (h : bad l = false) : valid l = (dec l).2 + valid (l.drop (dec l).2) := by
  have hd := drop_lt l hl
  have hp := List.length_pos_iff.2 hl
  unfold valid
  obtain ⟨n, hn⟩ : ∃ n, l.length = n + 1 := ⟨l.length - 1, by omega⟩
  rw [hn]
  simp only [vf, if_neg hl, h, Bool.false_eq_true, if_false]
  rw [vf_fuel n _ _ _ (by omega) (by omega) (Nat.le_refl _)]

inductive U8 : List UInt8 → Prop
  | nil : U8 []
  | step {l : List UInt8} : l ≠ [] → bad l = false → U8 (l.drop (dec l).2) → U8 l

theorem valid_le : ∀ (n : Nat) (l : List UInt8), l.length ≤ n → valid l ≤ l.length ∧ (valid l = l.length ↔ U8 l) := by
  intro n
  induction n with
  | zero =>
    intro l h
    obtain rfl := List.length_eq_zero_iff.1 (Nat.le_zero.1 h)
    exact ⟨Nat.le_refl _, fun _ => .nil, fun _ => rfl⟩
  | succ n ih =>
    intro l h
    by_cases hl : l = []
    · subst hl
      exact ⟨Nat.le_refl _, fun _ => .nil, fun _ => rfl⟩
    have hp := List.length_pos_iff.2 hl
    have hd := drop_lt l hl
    have hle := dec_le l hl
    cases hb : bad l with
    | true =>
      rw [valid_bad l hb]
      refine ⟨Nat.zero_le _, fun e => by omega, fun hu => ?_⟩
      cases hu with
      | nil => exact absurd rfl hl
      | step _ h1 _ => rw [hb] at h1; cases h1
    | false =>
      obtain ⟨h1, h2⟩ := ih (l.drop (dec l).2) (by omega)
      rw [valid_step l hl hb]
      rw [List.length_drop] at h1 h2
      refine ⟨by omega, fun e => .step hl hb (h2.1 (by omega)), fun hu => ?_⟩
      cases hu with
      | nil => exact absurd rfl hl
      | step _ _ h3 => have := h2.2 h3; omega

theorem u8_iff (l : List UInt8) : valid l = l.length ↔ U8 l := (valid_le _ l (Nat.le_refl _)).2

/-- A rune stands for itself, whatever is behind it; its bytes, but a lone one, are no ASCII. -/
theorem dec_keep (l : List UInt8) (hl : l ≠ []) (h : bad l = false) : (∀ q, dec (l.take (dec l).2 ++ q) = dec l) ∧ ((∃ c r, l = c :: r ∧ c.toNat < 128 ∧ (dec l).2 = 1) ∨ ∀ c ∈ l.take (dec l).2, 128 ≤ c.toNat) := by
  have hne : ¬ ((dec l).1 = 65533 ∧ (dec l).2 = 1) := fun ⟨a, b⟩ => by unfold bad at h; rw [a, b] at h; simp at h
  clear h
  revert hne
  have key : ∀ n b0 b1 b2 b3, ¬ ((Lib.decodeN n b0 b1 b2 b3).1 = 65533 ∧ (Lib.decodeN n b0 b1 b2 b3).2 = 1) →
      (b0 < 128 ∧ Lib.decodeN n b0 b1 b2 b3 = (b0, 1)) ∨ (∃ c, 128 ≤ b0 ∧ 128 ≤ b1 ∧ 1 < n ∧ Lib.decodeN n b0 b1 b2 b3 = (c, 2) ∧ ∀ m x y, 1 < m → Lib.decodeN m b0 b1 x y = (c, 2)) ∨
      (∃ c, 128 ≤ b0 ∧ 128 ≤ b1 ∧ 128 ≤ b2 ∧ 2 < n ∧ Lib.decodeN n b0 b1 b2 b3 = (c, 3) ∧ ∀ m y, 2 < m → Lib.decodeN m b0 b1 b2 y = (c, 3)) ∨ (∃ c, 128 ≤ b0 ∧ 128 ≤ b1 ∧ 128 ≤ b2 ∧ 128 ≤ b3 ∧ 3 < n ∧ Lib.decodeN n b0 b1 b2 b3 = (c, 4) ∧ ∀ m, 3 < m → Lib.decodeN m b0 b1 b2 b3 = (c, 4)) := by
    intro n b0 b1 b2 b3
    unfold Lib.decodeN
    by_cases h0 : b0 < 128
    · intro _; exact .inl ⟨h0, by rw [if_pos h0]⟩
    rw [if_neg h0]
    by_cases h1 : b0 / 32 = 6 ∧ (1 < n ∧ b1 / 64 = 2)
    · rw [if_pos h1]
      split
      · rename_i hc
        intro _
        exact .inr (.inl ⟨_, by omega, by omega, h1.2.1, rfl, fun m x y hm => by rw [if_pos ⟨h1.1, hm, h1.2.2⟩]⟩)
      · intro h; exact absurd ⟨rfl, rfl⟩ h
    rw [if_neg h1]
    by_cases h2 : b0 / 16 = 14 ∧ (1 < n ∧ b1 / 64 = 2) ∧ (2 < n ∧ b2 / 64 = 2)
    · rw [if_pos h2]
      split
      · rename_i hc
        intro _
        refine .inr (.inr (.inl ⟨_, by omega, by omega, by omega, h2.2.2.1, rfl, fun m y hm => ?_⟩))
        rw [if_neg (by omega), if_pos ⟨h2.1, ⟨by omega, h2.2.1.2⟩, hm, h2.2.2.2⟩]
      · intro h; exact absurd ⟨rfl, rfl⟩ h
    rw [if_neg h2]
    by_cases h3 : b0 / 8 = 30 ∧ (1 < n ∧ b1 / 64 = 2) ∧ (2 < n ∧ b2 / 64 = 2) ∧ (3 < n ∧ b3 / 64 = 2)
    · rw [if_pos h3]
      split
      · rename_i hc
        intro _
        refine .inr (.inr (.inr ⟨_, by omega, by omega, by omega, by omega, h3.2.2.2.1, rfl, fun m hm => ?_⟩))
        rw [if_neg (by omega), if_neg (by omega), if_pos ⟨h3.1, ⟨by omega, h3.2.1.2⟩, ⟨by omega, h3.2.2.1.2⟩, hm, h3.2.2.2.2⟩]
      · intro h; exact absurd ⟨rfl, rfl⟩ h
    rw [if_neg h3]
    intro h; exact absurd ⟨rfl, rfl⟩ h
  intro hne
  rcases key _ _ _ _ _ hne with ⟨h0, e⟩ | ⟨c, g0, g1, hn, e, hr⟩ | ⟨c, g0, g1, g2, hn, e, hr⟩ | ⟨c, g0, g1, g2, g3, hn, e, hr⟩
  · have e' : dec l = _ := e
    match l, hl with
    | a :: r, _ =>
      have h0' : a.toNat < 128 := by simpa using h0
      refine ⟨fun q => ?_, .inl ⟨a, r, rfl, h0', by rw [e']⟩⟩
      rw [e']
      simp [dec, Lib.decodeN, h0']
  · have e' : dec l = _ := e
    match l, hn with
    | a :: b :: r, _ =>
      rw [e']
      refine ⟨fun q => hr _ _ _ (by simp), .inr fun x hx => ?_⟩
      simp at hx g0 g1
      rcases hx with rfl | rfl <;> assumption
  · have e' : dec l = _ := e
    match l, hn with
    | a :: b :: c :: r, _ =>
      rw [e']
      refine ⟨fun q => hr _ _ (by simp), .inr fun x hx => ?_⟩
      simp at hx g0 g1 g2
      rcases hx with rfl | rfl | rfl <;> assumption
  · have e' : dec l = _ := e
    match l, hn with
    | a :: b :: c :: d :: r, _ =>
      rw [e']
      refine ⟨fun q => hr _ (by simp), .inr fun x hx => ?_⟩
      simp at hx g0 g1 g2 g3
      rcases hx with rfl | rfl | rfl | rfl <;> assumption

theorem bad_keep (l : List UInt8) (hl : l ≠ []) (h : bad l = false) (q : List UInt8) : bad (l.take (dec l).2 ++ q) = false := by
  unfold bad
  rw [(dec_keep l hl h).1 q]
  exact h

/-- A rune ahead of what is UTF-8. -/
theorem U8.rune {l q : List UInt8} (hl : l ≠ []) (h : bad l = false) (hq : U8 q) : U8 (l.take (dec l).2 ++ q) := by
  have hd := dec_pos l
  have hle := dec_le l hl
  refine .step ?_ (bad_keep l hl h q) ?_
  · intro e
    have := congrArg List.length e
    simp only [List.length_append, List.length_take, List.length_nil] at this
    omega
  · rw [(dec_keep l hl h).1 q, List.drop_append_of_le_length (by rw [List.length_take]; omega), List.drop_eq_nil_of_le (by rw [List.length_take]; omega), List.nil_append]
    exact hq

theorem U8.append {a b : List UInt8} (ha : U8 a) (hb : U8 b) : U8 (a ++ b) := by
  induction ha with
  | nil => exact hb
  | @step l hl h _ ih =>
    rw [← List.take_append_drop (dec l).2 l, List.append_assoc]
    exact U8.rune hl h ih

theorem U8.cons {c : UInt8} {r : List UInt8} (h : c.toNat < 128) (hr : U8 r) : U8 (c :: r) := by
  refine .step (by simp) (bad_low c r h) ?_
  rw [dec_low c r h]
  exact hr

theorem U8.tail {c : UInt8} {r : List UInt8} (h : U8 (c :: r)) (hc : c.toNat < 128) : U8 r := by
  cases h with
  | step _ _ h3 =>
    rw [dec_low c r hc] at h3
    exact h3

theorem U8.low {l : List UInt8} (h : l.all low = true) : U8 l := by
  induction l with
  | nil => exact .nil
  | cons c r ih =>
    rw [List.all_cons, Bool.and_eq_true] at h
    exact U8.cons (of_decide_eq_true h.1) (ih h.2)

/-! ### Texts -/

/-- What a quoted text says, and of how many bytes it is: behind the first ". -/
def text : List UInt8 → Option (List UInt8 × Nat)
  | [] => none
  | [c] => if c = 34 then some ([], 1) else none
  | c :: d :: r => if c = 10 then none else if c = 34 then some ([], 1) else if c = 92 then (if d = 34 ∨ d = 92 then (text r).map fun p => (d :: p.1, p.2 + 2) else none) else (text (d :: r)).map fun p => (c :: p.1, p.2 + 1)

theorem text_lf (r : List UInt8) : text (10 :: r) = none := by
  cases r with
  | nil => simp [text]
  | cons d r => simp [text]
theorem text_end (r : List UInt8) : text (34 :: r) = some ([], 1) := by
  cases r with
  | nil => simp [text]
  | cons d r => simp [text]
theorem text_esc (d : UInt8) (r : List UInt8) : text (92 :: d :: r) = if d = 34 ∨ d = 92 then (text r).map fun p => (d :: p.1, p.2 + 2) else none := by
  rw [text, if_neg (by decide), if_neg (by decide), if_pos rfl]
theorem text_esc0 : text [92] = none := by simp [text]
theorem text_other (c : UInt8) (r : List UInt8) (h1 : c ≠ 10) (h2 : c ≠ 34) (h3 : c ≠ 92) : text (c :: r) = (text r).map fun p => (c :: p.1, p.2 + 1) := by
  cases r with
  | nil => simp [text, h2]
  | cons d r => rw [text, if_neg h1, if_neg h2, if_neg h3]

/-- A text's letters, with a stroke ahead of each sign that needs one. -/
def esc : List UInt8 → List UInt8
  | [] => []
  | c :: r => if c = 34 ∨ c = 92 then 92 :: c :: esc r else c :: esc r

def isText (l : List UInt8) : Bool := !l.contains 10 && decide (valid l = l.length)
def quote (l : List UInt8) : List UInt8 := if isText l = true then 34 :: (esc l ++ [34]) else []

theorem esc_append : ∀ a b : List UInt8, esc (a ++ b) = esc a ++ esc b
  | [], _ => rfl
  | c :: r, b => by
    simp only [List.cons_append, esc, esc_append r b]
    split <;> rfl

theorem esc_len : ∀ l : List UInt8, l.length ≤ (esc l).length ∧ (esc l).length ≤ 2 * l.length
  | [] => by simp [esc]
  | c :: r => by
    have := esc_len r
    simp only [esc]
    split <;> simp only [List.length_cons] <;> omega

theorem esc_high : ∀ l : List UInt8, (∀ c ∈ l, 128 ≤ c.toNat) → esc l = l
  | [], _ => rfl
  | c :: r, h => by
    have hc := h c (by simp)
    have h34 : c ≠ 34 := fun e => by subst e; exact absurd hc (by decide)
    have h92 : c ≠ 92 := fun e => by subst e; exact absurd hc (by decide)
    rw [esc, if_neg (by simp [h34, h92]), esc_high r fun x hx => h x (by simp [hx])]

theorem esc_u8 {l : List UInt8} (h : U8 l) : U8 (esc l) := by
  induction h with
  | nil => exact .nil
  | @step l hl hb h3 ih =>
    rcases (dec_keep l hl hb).2 with ⟨c, r, rfl, hc, h1⟩ | hhi
    · rw [h1] at ih
      simp only [List.drop_succ_cons, List.drop_zero] at ih
      simp only [esc]
      split
      · exact U8.cons (by decide) (U8.cons hc ih)
      · exact U8.cons hc ih
    · have e : esc l = l.take (dec l).2 ++ esc (l.drop (dec l).2) := by
        conv => lhs; rw [← List.take_append_drop (dec l).2 l]
        rw [esc_append, esc_high _ hhi]
      rw [e]
      exact U8.rune hl hb ih

theorem text_quote (q : List UInt8) : ∀ l : List UInt8, l.contains 10 = false → text (esc l ++ 34 :: q) = some (l, (esc l).length + 1)
  | [], _ => by rw [esc, List.nil_append, text_end]; rfl
  | c :: r, h => by
    have h1 : c ≠ 10 := fun e => by subst e; simp at h
    have h2 : r.contains 10 = false := by
      rw [List.contains_cons, Bool.or_eq_false_iff] at h
      exact h.2
    have ih := text_quote q r h2
    by_cases hc : c = 34 ∨ c = 92
    · rw [esc, if_pos hc, List.cons_append, List.cons_append, text_esc, if_pos hc, ih]
      rfl
    · have h34 : c ≠ 34 := fun e => hc (.inl e)
      have h92 : c ≠ 92 := fun e => hc (.inr e)
      rw [esc, if_neg hc, List.cons_append, text_other c _ h1 h34 h92, ih]
      rfl

/-- What a text says, quoted, is the letters that it was read from. -/
theorem text_back : ∀ (n : Nat) (l s : List UInt8) (m : Nat), l.length ≤ n → text l = some (s, m) → s.contains 10 = false ∧ 1 ≤ m ∧ m ≤ l.length ∧ l.take m = esc s ++ [34] := by
  intro n
  induction n with
  | zero =>
    intro l s m h ht
    obtain rfl := List.length_eq_zero_iff.1 (Nat.le_zero.1 h)
    simp [text] at ht
  | succ n ih =>
    intro l s m h ht
    match l, h, ht with
    | [], _, ht => simp [text] at ht
    | c :: r, h, ht =>
      simp only [List.length_cons] at h
      by_cases h1 : c = 10
      · subst h1; rw [text_lf] at ht; cases ht
      by_cases h2 : c = 34
      · subst h2
        rw [text_end] at ht
        simp only [Option.some.injEq, Prod.mk.injEq] at ht
        obtain ⟨rfl, rfl⟩ := ht
        exact ⟨rfl, Nat.le_refl _, by simp, by simp [esc]⟩
      by_cases h3 : c = 92
      · subst h3
        match r, h, ht with
        | [], _, ht => rw [text_esc0] at ht; cases ht
        | d :: r, h, ht =>
          rw [text_esc] at ht
          split at ht
          · rename_i hd
            rw [Option.map_eq_some_iff] at ht
            obtain ⟨⟨s', m'⟩, ht2, he⟩ := ht
            simp only [Prod.mk.injEq] at he
            obtain ⟨rfl, rfl⟩ := he
            simp only [List.length_cons] at h
            obtain ⟨g1, g2, g3, g4⟩ := ih r s' m' (by omega) ht2
            have hd10 : d ≠ 10 := by rcases hd with rfl | rfl <;> decide
            refine ⟨?_, by omega, by simp only [List.length_cons]; omega, ?_⟩
            · rw [List.contains_cons, g1, Bool.or_false]
              simpa using fun e : (10 : UInt8) = d => hd10 e.symm
            · rw [List.take_succ_cons, List.take_succ_cons, g4, esc, if_pos hd]
              rfl
          · cases ht
      · rw [text_other c r h1 h2 h3, Option.map_eq_some_iff] at ht
        obtain ⟨⟨s', m'⟩, ht2, he⟩ := ht
        simp only [Prod.mk.injEq] at he
        obtain ⟨rfl, rfl⟩ := he
        obtain ⟨g1, g2, g3, g4⟩ := ih r s' m' (by omega) ht2
        refine ⟨?_, by omega, by simp only [List.length_cons]; omega, ?_⟩
        · rw [List.contains_cons, g1, Bool.or_false]
          simpa using fun e : (10 : UInt8) = c => h1 e.symm
        · rw [List.take_succ_cons, g4, esc, if_neg (by simp [h2, h3])]
          rfl

theorem text_high (q : List UInt8) : ∀ l : List UInt8, (∀ c ∈ l, 128 ≤ c.toNat) → text (l ++ q) = (text q).map fun p => (l ++ p.1, p.2 + l.length)
  | [], _ => by simp
  | c :: r, h => by
    have hc := h c (by simp)
    have h10 : c ≠ 10 := fun e => by subst e; exact absurd hc (by decide)
    have h34 : c ≠ 34 := fun e => by subst e; exact absurd hc (by decide)
    have h92 : c ≠ 92 := fun e => by subst e; exact absurd hc (by decide)
    rw [List.cons_append, text_other c _ h10 h34 h92, text_high q r fun x hx => h x (by simp [hx]), Option.map_map]
    rfl

theorem text_u8 : ∀ (n : Nat) (l s : List UInt8) (m : Nat), l.length ≤ n → U8 l → text l = some (s, m) → U8 s := by
  intro n
  induction n with
  | zero =>
    intro l s m h _ ht
    obtain rfl := List.length_eq_zero_iff.1 (Nat.le_zero.1 h)
    simp [text] at ht
  | succ n ih =>
    intro l s m h hu ht
    cases hu with
    | nil => simp [text] at ht
    | step hl hb h3 =>
      rcases (dec_keep l hl hb).2 with ⟨c, r, rfl, hc, h1⟩ | hhi
      · rw [h1, List.drop_succ_cons, List.drop_zero] at h3
        simp only [List.length_cons] at h
        by_cases h1 : c = 10
        · subst h1; rw [text_lf] at ht; cases ht
        by_cases h2 : c = 34
        · subst h2
          rw [text_end] at ht
          simp only [Option.some.injEq, Prod.mk.injEq] at ht
          obtain ⟨rfl, rfl⟩ := ht
          exact .nil
        by_cases h3' : c = 92
        · subst h3'
          match r, h, ht, h3 with
          | [], _, ht, _ => rw [text_esc0] at ht; cases ht
          | d :: r, h, ht, h3 =>
            rw [text_esc] at ht
            split at ht
            · rename_i hd
              rw [Option.map_eq_some_iff] at ht
              obtain ⟨⟨s', m'⟩, ht2, he⟩ := ht
              simp only [Prod.mk.injEq] at he
              obtain ⟨rfl, rfl⟩ := he
              simp only [List.length_cons] at h
              have hdl : d.toNat < 128 := by rcases hd with rfl | rfl <;> decide
              exact U8.cons hdl (ih r s' m' (by omega) (h3.tail hdl) ht2)
            · cases ht
        · rw [text_other c r h1 h2 h3', Option.map_eq_some_iff] at ht
          obtain ⟨⟨s', m'⟩, ht2, he⟩ := ht
          simp only [Prod.mk.injEq] at he
          obtain ⟨rfl, rfl⟩ := he
          exact U8.cons hc (ih r s' m' (by omega) h3 ht2)
      · have e := text_high (l.drop (dec l).2) _ hhi
        rw [List.take_append_drop] at e
        rw [e, Option.map_eq_some_iff] at ht
        obtain ⟨⟨s', m'⟩, ht2, he⟩ := ht
        simp only [Prod.mk.injEq] at he
        obtain ⟨rfl, rfl⟩ := he
        have hd := drop_lt l hl
        exact U8.rune hl hb (ih _ s' m' (by omega) h3 ht2)

end Go.Proofs.YtmodiemmcdocdaaDoor.LX

namespace Go.Proofs.YtmodiemmcdocdaaDoor.LX
open Go MW

theorem U8.strip {a b : List UInt8} (ha : U8 a) (h : U8 (a ++ b)) : U8 b := by
  induction ha with
  | nil => exact h
  | @step l hl hb _ ih =>
    have hd := dec_le l hl
    have e := (dec_keep l hl hb).1 (l.drop (dec l).2 ++ b)
    rw [← List.append_assoc, List.take_append_drop] at e
    cases h' : l ++ b with
    | nil => exact absurd (List.append_eq_nil_iff.1 h').1 hl
    | cons c r =>
      rw [h'] at h e
      cases h with
      | step _ _ h3 =>
        rw [e, ← h', List.drop_append_of_le_length hd] at h3
        exact ih h3

/-! ### Numbers -/

def natOf (l : List UInt8) : Nat := l.foldl (fun n c => 10 * n + (c.toNat - 48)) 0

/-- A number's digits, without a stroke ahead. -/
def digs (l : List UInt8) : List UInt8 := if l.headD 0 = 45 then l.tail else l

/-- Could it be a number, but for its size? -/
def numForm (l : List UInt8) : Bool := !(digs l).isEmpty && decide ((digs l).length ≤ 19) && (!decide ((digs l).headD 0 = 48) || decide (l = [48])) && (digs l).all dig

def num (l : List UInt8) : Option Int :=
  if numForm l = true then
    if l.headD 0 = 45 then (if natOf (digs l) ≤ 9223372036854775808 then some (-(natOf (digs l) : Int)) else none)
    else if natOf (digs l) < 9223372036854775808 then some (natOf (digs l)) else none
  else none

/-! ### Tokens -/

/-- Those that are no names. -/
def words : List (List UInt8) :=
  [[102, 114, 111, 109], [116, 111], [119, 104, 101, 114, 101], [102, 105, 110, 100], [100, 101, 115, 99], [108, 105, 109, 105, 116], [112, 97, 103, 101], [97, 110, 100], [111, 114], [110, 111, 116], [119, 111, 114, 100], [104, 97, 115], [102, 105, 101, 108, 100], [116, 114, 117, 101], [102, 97, 108, 115, 101]]
def isWord (l : List UInt8) : Bool := words.contains l

theorem word_name {l : List UInt8} (h : isWord l = true) : name l = true := by
  have : ∀ x ∈ words, name x = true := by decide
  exact this l (List.contains_iff_mem.1 h)

structure Tok where
  kind : Nat
  says : List UInt8
  n : Int
  place : Nat

/-- Letters, digits, underlines, as long as it goes on. -/
def run (r : List UInt8) : List UInt8 := r.takeWhile ch

def kindOf (w : List UInt8) : Option (Nat × Int) := if isWord w = true then some (2, 0) else if name w = true then some (1, 0) else (num w).map fun n => (3, n)

/-- The token that begins with c; how many bytes it has. -/
def tok (c : UInt8) (r : List UInt8) : Option (Nat × List UInt8 × Int × Nat) :=
  if c = 61 ∨ c = 40 ∨ c = 41 then some (5, [c], 0, 1)
  else if c = 33 ∧ r.head? = some 61 then some (5, [33, 61], 0, 2)
  else if c = 34 then (text r).map fun p => (4, p.1, 0, p.2 + 1)
  else if c = 45 ∨ ch c = true then (kindOf (c :: run r)).map fun p => (p.1, c :: run r, p.2, (run r).length + 1)
  else none

theorem run_le (r : List UInt8) : (run r).length ≤ r.length := (List.takeWhile_sublist _).length_le

theorem tok_len {c : UInt8} {r : List UInt8} {k m : Nat} {s : List UInt8} {n : Int} (h : tok c r = some (k, s, n, m)) : 1 ≤ m ∧ m ≤ r.length + 1 := by
  unfold tok at h
  split at h
  · simp only [Option.some.injEq, Prod.mk.injEq] at h
    omega
  split at h
  · rename_i h2
    simp only [Option.some.injEq, Prod.mk.injEq] at h
    cases r with
    | nil => simp at h2
    | cons d r => simp only [List.length_cons]; omega
  split at h
  · rw [Option.map_eq_some_iff] at h
    obtain ⟨⟨s', m'⟩, ht, he⟩ := h
    simp only [Prod.mk.injEq] at he
    have := text_back _ r s' m' (Nat.le_refl _) ht
    omega
  split at h
  · rw [Option.map_eq_some_iff] at h
    obtain ⟨⟨k', n'⟩, _, he⟩ := h
    simp only [Prod.mk.injEq] at he
    have := run_le r
    omega
  · cases h

def lf : Nat → Nat → List UInt8 → Except Nat (List Tok)
  | 0, _, _ => .ok []
  | f + 1, i, l => match l with
    | [] => .ok []
    | c :: r => if c = 32 then lf f (i + 1) r else match tok c r with
      | none => .error (i + 1)
      | some (k, s, n, m) => (lf f (i + m) ((c :: r).drop m)).map (⟨k, s, n, i + 1⟩ :: ·)

theorem lf_fuel : ∀ (x : Nat) (l : List UInt8) (i f g : Nat), l.length ≤ x → l.length ≤ f → l.length ≤ g → lf f i l = lf g i l := by
  intro x
  induction x with
  | zero =>
    intro l i f g h _ _
    obtain rfl := List.length_eq_zero_iff.1 (Nat.le_zero.1 h)
    cases f <;> cases g <;> simp [lf]
  | succ x ih =>
    intro l i f g h hf hg
    cases l with
    | nil => cases f <;> cases g <;> simp [lf]
    | cons c r =>
      simp only [List.length_cons] at h hf hg
      obtain ⟨f, rfl⟩ : ∃ k, f = k + 1 := ⟨f - 1, by omega⟩
      obtain ⟨g, rfl⟩ : ∃ k, g = k + 1 := ⟨g - 1, by omega⟩
      simp only [lf]
      split
      · exact ih _ _ _ _ (by omega) (by omega) (by omega)
      · split
        · rfl
        · rename_i k s n m ht
          have := tok_len ht
          rw [ih _ _ f g (by simp only [List.length_drop, List.length_cons]; omega) (by simp only [List.length_drop, List.length_cons]; omega) (by simp only [List.length_drop, List.length_cons]; omega)]

/-- All tokens but the last one, of what stands behind i bytes; or where there is none. -/
def toks (i : Nat) (l : List UInt8) : Except Nat (List Tok) := lf l.length i l

theorem toks_nil (i : Nat) : toks i [] = .ok [] := rfl
theorem toks_blank (i : Nat) (r : List UInt8) : toks i (32 :: r) = toks (i + 1) r := by
  unfold toks
  simp only [List.length_cons, lf, if_true]
theorem toks_none {i : Nat} {c : UInt8} {r : List UInt8} (hc : c ≠ 32) (h : tok c r = none) : toks i (c :: r) = .error (i + 1) := by
  unfold toks
  simp only [List.length_cons, lf, if_neg hc, h]
theorem toks_some {i : Nat} {c : UInt8} {r : List UInt8} (hc : c ≠ 32) {k m : Nat} {s : List UInt8} {n : Int} (h : tok c r = some (k, s, n, m)) : toks i (c :: r) = (toks (i + m) ((c :: r).drop m)).map (⟨k, s, n, i + 1⟩ :: ·) := by
  have := tok_len h
  unfold toks
  simp only [List.length_cons, lf, if_neg hc, h]
  rw [lf_fuel r.length _ _ _ _ (by simp only [List.length_drop, List.length_cons]; omega) (by simp only [List.length_drop, List.length_cons]; omega) (Nat.le_refl _)]

/-- What Lex answers: all tokens, or the error's number and its place. -/
def lex (l : List UInt8) : Except (Nat × Nat) (List Tok) :=
  if 1024 < l.length then .error (6, 1)
  else if valid l < l.length then .error (4, valid l + 1)
  else match toks 0 l with
    | .error p => .error (4, p)
    | .ok ts => .ok (ts ++ [⟨0, [], 0, l.length + 1⟩])

theorem lex_u8 {l : List UInt8} (h1 : l.length ≤ 1024) (h2 : U8 l) : lex l = match toks 0 l with
    | .error p => .error (4, p)
    | .ok ts => .ok (ts ++ [⟨0, [], 0, l.length + 1⟩]) := by
  unfold lex
  rw [if_neg (by omega), if_neg (by rw [(u8_iff l).2 h2]; omega)]

theorem lex_ok {l : List UInt8} {ts : List Tok} (h : lex l = .ok ts) : l.length ≤ 1024 ∧ U8 l ∧ ∃ ts', toks 0 l = .ok ts' ∧ ts = ts' ++ [⟨0, [], 0, l.length + 1⟩] := by
  unfold lex at h
  split at h
  · cases h
  split at h
  · cases h
  have hv := (valid_le _ l (Nat.le_refl _)).1
  refine ⟨by omega, (u8_iff l).1 (by omega), ?_⟩
  split at h
  · cases h
  · rename_i ts' ht
    exact ⟨ts', ht, by cases h; rfl⟩

/-! ### What a token says, read again -/

/-- A token's letters. -/
def Tok.letters (t : Tok) : List UInt8 := if t.kind = 4 then quote t.says else t.says

theorem isText_of {s : List UInt8} (h1 : s.contains 10 = false) (h2 : U8 s) : isText s = true := by
  unfold isText
  rw [h1, (u8_iff s).2 h2]
  simp

theorem quote_of {s : List UInt8} (h : isText s = true) : quote s = 34 :: (esc s ++ [34]) := if_pos h

theorem kindOf_small {w : List UInt8} {k : Nat} {n : Int} (h : kindOf w = some (k, n)) : k ≤ 3 ∧ (k = 1 ∨ k = 2 → name w = true ∧ (k = 2 ↔ isWord w = true)) := by
  unfold kindOf at h
  split at h
  · rename_i hw
    simp only [Option.some.injEq, Prod.mk.injEq] at h
    obtain ⟨rfl, _⟩ := h
    exact ⟨by omega, fun _ => ⟨word_name hw, fun _ => hw, fun _ => rfl⟩⟩
  split at h
  · rename_i hw hn
    simp only [Option.some.injEq, Prod.mk.injEq] at h
    obtain ⟨rfl, _⟩ := h
    exact ⟨by omega, fun _ => ⟨hn, fun h => absurd h (by decide), fun h => absurd h hw⟩⟩
  · rw [Option.map_eq_some_iff] at h
    obtain ⟨n', _, he⟩ := h
    simp only [Prod.mk.injEq] at he
    obtain ⟨rfl, _⟩ := he
    exact ⟨by omega, fun h => by omega⟩

theorem run_all (r : List UInt8) : (run r).all ch = true := List.all_takeWhile
theorem run_stop (a q : List UInt8) (h : a.all ch = true) : run (a ++ 32 :: q) = a := by
  unfold run
  rw [List.takeWhile_append_of_pos (by simpa using h)]
  simp [ch]
theorem run_self (a : List UInt8) (h : a.all ch = true) : run a = a := by
  have := List.takeWhile_append_of_pos (p := ch) (l₁ := a) (l₂ := []) (by simpa using h)
  rw [List.append_nil] at this
  unfold run
  rw [this]
  simp

theorem tok_back {c : UInt8} {r : List UInt8} {k m : Nat} {s : List UInt8} {n : Int} (h : tok c r = some (k, s, n, m)) (hu : U8 (c :: r)) (i : Nat) :
    ∃ r0, (Tok.mk k s n i).letters = c :: r0 ∧ (c :: r).take m = c :: r0 ∧ U8 (c :: r0) ∧ ∀ q, tok c (r0 ++ 32 :: q) = some (k, s, n, r0.length + 1) := by
  unfold tok at h
  split at h
  · rename_i h1
    simp only [Option.some.injEq, Prod.mk.injEq] at h
    obtain ⟨rfl, rfl, rfl, rfl⟩ := h
    refine ⟨[], rfl, rfl, ?_, fun q => ?_⟩
    · exact U8.low (by rcases h1 with rfl | rfl | rfl <;> decide)
    · unfold tok
      rw [if_pos h1]
      rfl
  rename_i h1
  split at h
  · rename_i h2
    obtain ⟨rfl, h2⟩ := h2
    simp only [Option.some.injEq, Prod.mk.injEq] at h
    obtain ⟨rfl, rfl, rfl, rfl⟩ := h
    refine ⟨[61], rfl, ?_, U8.low (by decide), fun q => by simp [tok]⟩
    cases r with
    | nil => simp at h2
    | cons d r => simp at h2; subst h2; rfl
  rename_i h2
  split at h
  · rename_i h3
    subst h3
    rw [Option.map_eq_some_iff] at h
    obtain ⟨⟨s', m'⟩, ht, he⟩ := h
    simp only [Prod.mk.injEq] at he
    obtain ⟨rfl, rfl, rfl, rfl⟩ := he
    have hb := text_back _ r s' m' (Nat.le_refl _) ht
    have hu' := text_u8 _ r s' m' (Nat.le_refl _) (hu.tail (by decide)) ht
    have hi := isText_of hb.1 hu'
    refine ⟨esc s' ++ [34], ?_, by rw [List.take_succ_cons, hb.2.2.2], ?_, fun q => ?_⟩
    · show quote s' = _
      exact quote_of hi
    · exact U8.cons (by decide) ((esc_u8 hu').append (U8.low (by decide)))
    · unfold tok
      rw [if_neg (by decide), if_neg (fun h => absurd h.1 (by decide)), if_pos rfl, List.append_assoc, List.singleton_append, text_quote _ _ hb.1]
      simp
  rename_i h3
  split at h
  · rename_i h4
    rw [Option.map_eq_some_iff] at h
    obtain ⟨⟨k', n'⟩, hk, he⟩ := h
    simp only [Prod.mk.injEq] at he
    obtain ⟨rfl, rfl, rfl, rfl⟩ := he
    have hs := kindOf_small hk
    refine ⟨run r, ?_, ?_, ?_, fun q => ?_⟩
    · unfold Tok.letters
      rw [if_neg (by simp only; omega)]
    · rw [List.take_succ_cons]
      have e : r = run r ++ r.dropWhile ch := (List.takeWhile_append_dropWhile (p := ch) (l := r)).symm
      have e2 : r.take (run r).length = (run r ++ r.dropWhile ch).take (run r).length := by rw [← e]
      rw [e2, List.take_left]
    · refine U8.cons ?_ (U8.low (List.all_eq_true.2 fun x hx => ch_low x (List.all_eq_true.1 (run_all r) x hx)))
      rcases h4 with rfl | h4
      · decide
      · exact of_decide_eq_true (ch_low c h4)
    · unfold tok
      rw [if_neg h1, if_neg ?_, if_neg h3, if_pos h4, run_stop _ _ (run_all r), hk]
      · rfl
      · rintro ⟨rfl, _⟩
        rcases h4 with h4 | h4
        · cases h4
        · exact absurd h4 (by decide)
  · cases h

/-- A token, but for its place. -/
def Tok.bare (t : Tok) : Nat × List UInt8 × Int := (t.kind, t.says, t.n)

/-- Tokens' letters, with b blanks behind each. -/
def glue (b : Nat) : List Tok → List UInt8
  | [] => []
  | t :: r => t.letters ++ (List.replicate b 32 ++ glue b r)

theorem toks_blanks (q : List UInt8) : ∀ (b i : Nat), toks i (List.replicate b 32 ++ q) = toks (i + b) q
  | 0, i => rfl
  | b + 1, i => by
    rw [List.replicate_succ, List.cons_append, toks_blank, toks_blanks q b (i + 1)]
    congr 1
    omega

theorem glue_back (b : Nat) (hb : 1 ≤ b) (z : Nat) : ∀ (n : Nat) (l : List UInt8) (i : Nat) (ts : List Tok), l.length ≤ n → U8 l → toks i l = .ok ts →
    U8 (glue b ts) ∧ ∀ j, ∃ ts', toks j (glue b ts ++ List.replicate z 32) = .ok ts' ∧ ts'.map Tok.bare = ts.map Tok.bare := by
  have hlow : ∀ b, U8 (List.replicate b 32) := fun b => U8.low (by rw [List.all_replicate]; simp [low])
  intro n
  induction n with
  | zero =>
    intro l i ts h _ ht
    obtain rfl := List.length_eq_zero_iff.1 (Nat.le_zero.1 h)
    rw [toks_nil] at ht
    cases ht
    exact ⟨.nil, fun j => ⟨[], by have := toks_blanks [] z j; rw [List.append_nil] at this; rw [glue, List.nil_append, this, toks_nil], rfl⟩⟩
  | succ n ih =>
    intro l i ts h hu ht
    cases l with
    | nil => exact ih [] i ts (by simp) hu ht
    | cons c r =>
      simp only [List.length_cons] at h
      by_cases hc : c = 32
      · subst hc
        rw [toks_blank] at ht
        exact ih r _ ts (by omega) (hu.tail (by decide)) ht
      · cases hk : tok c r with
        | none => rw [toks_none hc hk] at ht; cases ht
        | some p =>
          obtain ⟨k, s, x, m⟩ := p
          have hm := tok_len hk
          rw [toks_some hc hk] at ht
          cases hr : toks (i + m) ((c :: r).drop m) with
          | error e => rw [hr] at ht; cases ht
          | ok ts2 =>
            rw [hr] at ht
            cases ht
            obtain ⟨r0, hl, htk, hu0, hq⟩ := tok_back hk hu (i + 1)
            have hu2 : U8 ((c :: r).drop m) := U8.strip (htk ▸ hu0) (by rw [List.take_append_drop]; exact hu)
            obtain ⟨g1, g2⟩ := ih _ _ ts2 (by simp only [List.length_drop, List.length_cons]; omega) hu2 hr
            refine ⟨?_, fun j => ?_⟩
            · rw [glue, hl]
              exact hu0.append ((hlow b).append g1)
            · obtain ⟨ts', h1, h2⟩ := g2 (j + (r0.length + 1) + b)
              obtain ⟨b, rfl⟩ : ∃ b', b = b' + 1 := ⟨b - 1, by omega⟩
              have e : glue (b + 1) (⟨k, s, x, i + 1⟩ :: ts2) ++ List.replicate z 32 = c :: (r0 ++ 32 :: (List.replicate b 32 ++ (glue (b + 1) ts2 ++ List.replicate z 32))) := by
                rw [glue, hl, List.replicate_succ]
                simp
              refine ⟨⟨k, s, x, j + 1⟩ :: ts', ?_, by rw [List.map_cons, List.map_cons, h2]; rfl⟩
              rw [e, toks_some hc (hq _), List.drop_succ_cons, List.drop_left, ← List.cons_append, ← List.replicate_succ, toks_blanks, h1]
              rfl

/-- With b blanks behind each token all tokens are the same again, but for their places. -/
theorem lex_glue {l : List UInt8} {ts : List Tok} (h : lex l = .ok ts) (b : Nat) (hb : 1 ≤ b) (hlen : (glue b ts).length ≤ 1024) : ∃ ts', lex (glue b ts) = .ok ts' ∧ ts'.map Tok.bare = ts.map Tok.bare := by
  obtain ⟨_, hu, ts', ht, rfl⟩ := lex_ok h
  have e : ∀ (ts : List Tok) (t : Tok), t.letters = [] → glue b (ts ++ [t]) = glue b ts ++ List.replicate b 32 := by
    intro ts t h0
    induction ts with
    | nil => simp [glue, h0]
    | cons x r ih => simp [glue, ih]
  rw [e _ _ rfl] at hlen ⊢
  obtain ⟨g1, g2⟩ := glue_back b hb b _ l 0 ts' (Nat.le_refl _) hu ht
  obtain ⟨ts2, h1, h2⟩ := g2 0
  rw [lex_u8 hlen (g1.append (U8.low (by rw [List.all_replicate]; simp [low]))), h1]
  exact ⟨_, rfl, by rw [List.map_append, List.map_append, h2]; rfl⟩

/-- What is quoted is one text, that says the same. -/
theorem lex_quote {s : List UInt8} (hs : isText s = true) (hlen : (quote s).length ≤ 1024) : lex (quote s) = .ok [⟨4, s, 0, 1⟩, ⟨0, [], 0, (quote s).length + 1⟩] := by
  have h10 : s.contains 10 = false := by
    unfold isText at hs
    simp only [Bool.and_eq_true, Bool.not_eq_true'] at hs
    exact hs.1
  have hu : U8 s := by
    unfold isText at hs
    simp only [Bool.and_eq_true, decide_eq_true_eq] at hs
    exact (u8_iff s).1 hs.2
  have hq := quote_of hs
  have hu2 : U8 (quote s) := by
    rw [hq]
    exact U8.cons (by decide) ((esc_u8 hu).append (U8.low (by decide)))
  have ht : tok 34 (esc s ++ [34]) = some (4, s, 0, (esc s).length + 2) := by
    unfold tok
    rw [if_neg (by decide), if_neg (fun h => absurd h.1 (by decide)), if_pos rfl, text_quote [] s h10]
    rfl
  have e : toks 0 (quote s) = .ok [⟨4, s, 0, 1⟩] := by
    rw [hq, toks_some (by decide) ht, List.drop_eq_nil_of_le (by simp), toks_nil]
    rfl
  rw [lex_u8 hlen hu2, e]
  rfl

theorem toks_names : ∀ (n : Nat) (l : List UInt8) (i : Nat) (ts : List Tok), l.length ≤ n → toks i l = .ok ts → ∀ t ∈ ts, t.kind = 1 ∨ t.kind = 2 → name t.says = true ∧ (t.kind = 2 ↔ isWord t.says = true) := by
  intro n
  induction n with
  | zero =>
    intro l i ts h ht t htm _
    obtain rfl := List.length_eq_zero_iff.1 (Nat.le_zero.1 h)
    rw [toks_nil] at ht
    cases ht
    simp at htm
  | succ n ih =>
    intro l i ts h ht t htm hk12
    cases l with
    | nil => exact ih [] i ts (by simp) ht t htm hk12
    | cons c r =>
      simp only [List.length_cons] at h
      by_cases hc : c = 32
      · subst hc
        rw [toks_blank] at ht
        exact ih r _ ts (by omega) ht t htm hk12
      · cases hk : tok c r with
        | none => rw [toks_none hc hk] at ht; cases ht
        | some p =>
          obtain ⟨k, s, x, m⟩ := p
          have hm := tok_len hk
          rw [toks_some hc hk] at ht
          cases hr : toks (i + m) ((c :: r).drop m) with
          | error e => rw [hr] at ht; cases ht
          | ok ts2 =>
            rw [hr] at ht
            cases ht
            rcases List.mem_cons.1 htm with rfl | htm
            · unfold tok at hk
              simp only at hk12 ⊢
              split at hk
              · simp only [Option.some.injEq, Prod.mk.injEq] at hk
                omega
              split at hk
              · simp only [Option.some.injEq, Prod.mk.injEq] at hk
                omega
              split at hk
              · rw [Option.map_eq_some_iff] at hk
                obtain ⟨⟨s', m'⟩, _, he⟩ := hk
                simp only [Prod.mk.injEq] at he
                omega
              split at hk
              · rw [Option.map_eq_some_iff] at hk
                obtain ⟨⟨k', n'⟩, hko, he⟩ := hk
                simp only [Prod.mk.injEq] at he
                obtain ⟨rfl, rfl, _, _⟩ := he
                exact (kindOf_small hko).2 hk12
              · cases hk
            · exact ih _ _ ts2 (by simp only [List.length_drop, List.length_cons]; omega) hr t htm hk12

theorem toks_count : ∀ (n : Nat) (l : List UInt8) (i : Nat) (ts : List Tok), l.length ≤ n → toks i l = .ok ts → ts.length ≤ l.length := by
  intro n
  induction n with
  | zero =>
    intro l i ts h ht
    obtain rfl := List.length_eq_zero_iff.1 (Nat.le_zero.1 h)
    rw [toks_nil] at ht
    cases ht
    exact Nat.le_refl _
  | succ n ih =>
    intro l i ts h ht
    cases l with
    | nil => exact ih [] i ts (by simp) ht
    | cons c r =>
      simp only [List.length_cons] at h
      by_cases hc : c = 32
      · subst hc
        rw [toks_blank] at ht
        have := ih r _ ts (by omega) ht
        simp only [List.length_cons]
        omega
      · cases hk : tok c r with
        | none => rw [toks_none hc hk] at ht; cases ht
        | some p =>
          obtain ⟨k, s, x, m⟩ := p
          have hm := tok_len hk
          rw [toks_some hc hk] at ht
          cases hr : toks (i + m) ((c :: r).drop m) with
          | error e => rw [hr] at ht; cases ht
          | ok ts2 =>
            rw [hr] at ht
            cases ht
            have := ih _ _ ts2 (by simp only [List.length_drop, List.length_cons]; omega) hr
            simp only [List.length_drop, List.length_cons] at this ⊢
            omega

theorem lex_count {l : List UInt8} {ts : List Tok} (h : lex l = .ok ts) : ts.length ≤ 1025 := by
  obtain ⟨h1, _, ts', ht, rfl⟩ := lex_ok h
  have := toks_count _ l 0 ts' (Nat.le_refl _) ht
  rw [List.length_append, List.length_singleton]
  omega

theorem name_parts {s : List UInt8} (h : name s = true) : ∃ c r, s = c :: r ∧ s.length ≤ 20 ∧ s.all ch = true ∧ dig c = false := by
  unfold name at h
  cases s with
  | nil => simp at h
  | cons c r =>
    simp only [Bool.and_eq_true, decide_eq_true_eq, Bool.not_eq_true', List.headD_cons] at h
    exact ⟨c, r, rfl, h.1.1.2, h.2, h.1.2⟩

/-- One token that says all of it, and is a name or a word, just if it can be a label's name. -/
theorem lex_name {s : List UInt8} (h : name s = true) : lex s = .ok [⟨if isWord s = true then 2 else 1, s, 0, 1⟩, ⟨0, [], 0, s.length + 1⟩] := by
  obtain ⟨c, r, rfl, hlen, hall, _⟩ := name_parts h
  have hu : U8 (c :: r) := U8.low (List.all_eq_true.2 fun x hx => ch_low x (List.all_eq_true.1 hall x hx))
  have hall' := hall
  rw [List.all_cons, Bool.and_eq_true] at hall'
  have hne : ∀ d : UInt8, ch d = false → c ≠ d := fun d hd e => by rw [e, hd] at hall'; exact absurd hall'.1 (by decide)
  have ht : tok c r = some (if isWord (c :: r) = true then 2 else 1, c :: r, 0, r.length + 1) := by
    unfold tok
    rw [if_neg (by rintro (e | e | e) <;> exact hne _ (by decide) e), if_neg (fun e => hne _ (by decide) e.1), if_neg (hne _ (by decide)), if_pos (.inr hall'.1), run_self r hall'.2]
    unfold kindOf
    by_cases hw : isWord (c :: r) = true
    · rw [if_pos hw, if_pos hw]; rfl
    · rw [if_neg hw, if_neg hw, if_pos h]; rfl
  have e : toks 0 (c :: r) = .ok [⟨if isWord (c :: r) = true then 2 else 1, c :: r, 0, 1⟩] := by
    rw [toks_some (hne _ (by decide)) ht, List.drop_eq_nil_of_le (by simp), toks_nil]
    rfl
  rw [lex_u8 (by omega) hu, e]
  rfl

theorem name_lex {s : List UInt8} {ts : List Tok} (h : lex s = .ok ts) {t : Tok} (ht : t ∈ ts) (hs : t.says = s) (hk : t.kind = 1 ∨ t.kind = 2) : name s = true := by
  obtain ⟨_, _, ts', h1, rfl⟩ := lex_ok h
  rcases List.mem_append.1 ht with ht | ht
  · rw [← hs]
    exact (toks_names _ s 0 ts' (Nat.le_refl _) h1 t ht hk).1
  · rw [List.mem_singleton] at ht
    subst ht
    simp at hk

end Go.Proofs.YtmodiemmcdocdaaDoor.LX

namespace Go.Proofs.YtmodiemmcdocdaaDoor.LX
open Go MW Lib

theorem digit_nat (d : Nat) (h : d < 10) : (UInt8.ofNat (48 + d)).toNat = 48 + d := by
  rw [UInt8.toNat_ofNat']
  omega

theorem decDigits_ne (u : Nat) : decDigits u ≠ [] := by
  rw [decDigits]
  split <;> simp

theorem decDigits_all (u : Nat) : (decDigits u).all dig = true := by
  induction u using Nat.strongRecOn with
  | _ u ih =>
    have hd : ∀ d, d < 10 → dig (UInt8.ofNat (48 + d)) = true := fun d hd => by
      unfold dig
      rw [digit_nat d hd]
      simp
      omega
    rw [decDigits]
    split
    · rename_i h
      simp only [List.all_cons, List.all_nil, Bool.and_true]
      exact hd u h
    · rename_i h
      rw [List.all_append, ih (u / 10) (by omega), Bool.true_and]
      simp only [List.all_cons, List.all_nil, Bool.and_true]
      exact hd _ (by omega)

theorem natOf_snoc (a : List UInt8) (c : UInt8) : natOf (a ++ [c]) = 10 * natOf a + (c.toNat - 48) := by simp [natOf]

theorem decDigits_nat (u : Nat) : natOf (decDigits u) = u := by
  induction u using Nat.strongRecOn with
  | _ u ih =>
    rw [decDigits]
    split
    · rename_i h
      simp only [natOf, List.foldl_cons, List.foldl_nil]
      rw [digit_nat u h]
      omega
    · rename_i h
      rw [natOf_snoc, ih (u / 10) (by omega), digit_nat _ (by omega)]
      omega

theorem nDigits_le : ∀ (k u : Nat), u < 10 ^ (k + 1) → nDigits u ≤ k + 1
  | 0, u, h => by rw [nDigits_small (by simpa using h)]; omega
  | k + 1, u, h => by
    by_cases hs : u < 10
    · rw [nDigits_small hs]; omega
    · rw [nDigits_big hs]
      have := nDigits_le k (u / 10) (by rw [Nat.pow_succ] at h; omega)
      omega

theorem decDigits_head (u : Nat) : 1 ≤ u → (decDigits u).headD 0 ≠ 48 := by
  induction u using Nat.strongRecOn with
  | _ u ih =>
    intro h1
    rw [decDigits]
    split
    · rename_i h
      intro e
      rw [List.headD_cons] at e
      have := congrArg UInt8.toNat e
      rw [digit_nat u h] at this
      have h48 : (48 : UInt8).toNat = 48 := rfl
      omega
    · rename_i h
      have := ih (u / 10) (by omega) (by omega)
      cases hd : decDigits (u / 10) with
      | nil => exact absurd hd (decDigits_ne _)
      | cons a r => rw [hd] at this; exact this

theorem dig_ch (c : UInt8) (h : dig c = true) : ch c = true := by
  unfold dig at h
  unfold ch
  rw [h]
  simp

theorem itoa_parts (n : Int) (h0 : -9223372036854775808 ≤ n) (h1 : n ≤ 9223372036854775807) :
    num (itoa n) = some n ∧ (itoa n).length ≤ 20 ∧ ∃ c r, itoa n = c :: r ∧ r.all ch = true ∧ (c = 45 ∨ dig c = true) := by
  unfold itoa
  split
  · rename_i hn
    have hu : n.natAbs ≤ 9223372036854775808 := by omega
    have hl : (decDigits n.natAbs).length ≤ 19 := by
      rw [decDigits_length]
      exact nDigits_le 18 _ (by omega)
    refine ⟨?_, by simp only [List.length_cons]; omega, 45, _, rfl, List.all_eq_true.2 fun x hx => dig_ch x (List.all_eq_true.1 (decDigits_all _) x hx), .inl rfl⟩
    have hf : numForm (45 :: decDigits n.natAbs) = true := by
      unfold numForm
      have hd : digs (45 :: decDigits n.natAbs) = decDigits n.natAbs := rfl
      rw [hd, decDigits_all, decide_eq_true hl, decide_eq_false (decDigits_head _ (by omega))]
      simp [decDigits_ne]
    unfold num
    have hd : digs (45 :: decDigits n.natAbs) = decDigits n.natAbs := rfl
    rw [if_pos hf, if_pos (show (45 :: decDigits n.natAbs).headD 0 = 45 from rfl), hd, decDigits_nat, if_pos hu]
    congr 1
    omega
  · rename_i hn
    have hl : (decDigits n.toNat).length ≤ 19 := by
      rw [decDigits_length]
      exact nDigits_le 18 _ (by omega)
    have hall := decDigits_all n.toNat
    have hnat := decDigits_nat n.toNat
    have hhead := decDigits_head n.toNat
    have hz : n.toNat = 0 → decDigits n.toNat = [48] := fun e => by rw [e, decDigits]; rfl
    cases hd : decDigits n.toNat with
    | nil => exact absurd hd (decDigits_ne _)
    | cons c r =>
      rw [hd] at hl hall hnat hhead hz
      rw [List.all_cons, Bool.and_eq_true] at hall
      have hc45 : c ≠ 45 := fun e => by rw [e] at hall; exact absurd hall.1 (by decide)
      have hdg : digs (c :: r) = c :: r := if_neg hc45
      refine ⟨?_, by omega, c, r, rfl, List.all_eq_true.2 fun x hx => dig_ch x (List.all_eq_true.1 hall.2 x hx), .inr hall.1⟩
      have hf : numForm (c :: r) = true := by
        unfold numForm
        rw [hdg, List.all_cons, hall.1, hall.2, decide_eq_true hl]
        by_cases e : n.toNat = 0
        · rw [hz e]; rfl
        · rw [decide_eq_false (hhead (by omega))]; rfl
      unfold num
      rw [if_pos hf, if_neg (by simpa using hc45), hdg, hnat, if_pos (by omega)]
      congr 1
      omega

theorem lex_itoa (n : Int) (h0 : -9223372036854775808 ≤ n) (h1 : n ≤ 9223372036854775807) : lex (itoa n) = .ok [⟨3, itoa n, n, 1⟩, ⟨0, [], 0, (itoa n).length + 1⟩] := by
  obtain ⟨hn, hlen, c, r, he, hr, hc⟩ := itoa_parts n h0 h1
  rw [he] at hn hlen ⊢
  have hlow : low c = true := by
    rcases hc with rfl | hc
    · rfl
    · exact ch_low c (dig_ch c hc)
  have hu : U8 (c :: r) := U8.cons (of_decide_eq_true hlow) (U8.low (List.all_eq_true.2 fun x hx => ch_low x (List.all_eq_true.1 hr x hx)))
  have hne : ∀ d : UInt8, d ≠ 45 → dig d = false → c ≠ d := fun d hd hg e => by
    subst e
    rcases hc with h | h
    · exact hd h
    · rw [hg] at h; cases h
  have hname : name (c :: r) = false := by
    rw [Bool.eq_false_iff]
    intro h
    obtain ⟨c', r', e, _, hall, hdig⟩ := name_parts h
    cases e
    rcases hc with rfl | hc
    · rw [List.all_cons] at hall
      exact absurd hall (by simp [ch])
    · rw [hc] at hdig; cases hdig
  have hword : isWord (c :: r) = false := by
    rw [Bool.eq_false_iff]
    intro h
    rw [word_name h] at hname
    cases hname
  have ht : tok c r = some (3, c :: r, n, r.length + 1) := by
    unfold tok
    rw [if_neg (by rintro (e | e | e) <;> exact hne _ (by decide) (by decide) e), if_neg (fun e => hne _ (by decide) (by decide) e.1), if_neg (hne _ (by decide) (by decide)), if_pos (hc.imp id fun h => dig_ch c h), run_self r hr]
    unfold kindOf
    rw [if_neg (by simp [hword]), if_neg (by simp [hname]), hn]
    rfl
  have e : toks 0 (c :: r) = .ok [⟨3, c :: r, n, 1⟩] := by
    rw [toks_some (hne _ (by decide) (by decide)) ht, List.drop_eq_nil_of_le (by simp), toks_nil]
    rfl
  rw [lex_u8 (by omega) hu, e]
  rfl

end Go.Proofs.YtmodiemmcdocdaaDoor.LX

namespace Go.Proofs.YtmodiemmcdocdaaDoor.LX
open Go MW Lib

theorem dig_nat {c : UInt8} (h : dig c = true) : 48 ≤ c.toNat ∧ c.toNat ≤ 57 := by
  unfold dig at h
  rw [Bool.and_eq_true] at h
  exact ⟨of_decide_eq_true h.1, of_decide_eq_true h.2⟩

/-- What digits without noughts ahead say is written by these digits. -/
theorem dec_back : ∀ (n : Nat) (d : List UInt8), d.length = n + 1 → d.all dig = true → (d.headD 0 ≠ 48 ∨ n = 0) → decDigits (natOf d) = d := by
  intro n
  induction n with
  | zero =>
    intro d hl ha _
    match d, hl with
    | [c], _ =>
      simp only [List.all_cons, List.all_nil, Bool.and_true] at ha
      have hc := dig_nat ha
      have e : natOf [c] = c.toNat - 48 := by simp [natOf]
      rw [e, decDigits, dif_pos (by omega)]
      congr 1
      exact UInt8.toNat_inj.1 (by rw [digit_nat _ (by omega)]; omega)
  | succ n ih =>
    intro d hl ha hh
    have hne : d ≠ [] := fun e => by rw [e] at hl; simp at hl
    obtain ⟨a, c, rfl⟩ : ∃ a c, d = a ++ [c] := ⟨d.dropLast, d.getLast hne, (List.dropLast_concat_getLast hne).symm⟩
    have hla : a.length = n + 1 := by simpa using hl
    rw [List.all_append, Bool.and_eq_true] at ha
    obtain ⟨ha1, ha2⟩ := ha
    simp only [List.all_cons, List.all_nil, Bool.and_true] at ha2
    have hc := dig_nat ha2
    have hhd : a.headD 0 ≠ 48 := by
      rcases hh with hh | hh
      · cases a with
        | nil => simp at hla
        | cons x r => exact hh
      · omega
    have hA := ih a hla ha1 (.inl hhd)
    have hpos : natOf a ≠ 0 := fun e => by
      rw [e, decDigits] at hA
      rw [← hA] at hhd
      exact hhd rfl
    rw [natOf_snoc, decDigits, dif_neg (by omega), show (10 * natOf a + (c.toNat - 48)) / 10 = natOf a by omega, hA, show (10 * natOf a + (c.toNat - 48)) % 10 = c.toNat - 48 by omega]
    congr 2
    exact UInt8.toNat_inj.1 (by rw [digit_nat _ (by omega)]; omega)

theorem num_itoa {l : List UInt8} {v : Int} (h : num l = some v) : l = itoa v ∧ -9223372036854775808 ≤ v ∧ v ≤ 9223372036854775807 := by
  unfold num at h
  by_cases hf : numForm l = true
  · rw [if_pos hf] at h
    unfold numForm at hf
    rw [Bool.and_eq_true, Bool.and_eq_true, Bool.and_eq_true] at hf
    obtain ⟨⟨⟨h1, h2⟩, h3⟩, h4⟩ := hf
    have hne : digs l ≠ [] := fun e => by rw [e] at h1; cases h1
    have hl : ∃ n, (digs l).length = n + 1 := ⟨(digs l).length - 1, by have := List.length_pos_iff.2 hne; omega⟩
    obtain ⟨n, hl⟩ := hl
    rw [Bool.or_eq_true] at h3
    by_cases h45 : l.headD 0 = 45
    · rw [if_pos h45] at h
      have hd : digs l = l.tail := if_pos h45
      have hc : l = 45 :: l.tail := by
        cases l with
        | nil => cases h45
        | cons c r => exact congrArg (· :: r) h45
      have h48 : (digs l).headD 0 ≠ 48 := by
        rcases h3 with h3 | h3
        · simpa using h3
        · have := of_decide_eq_true h3
          rw [this] at h45
          cases h45
      have hb := dec_back n _ hl h4 (.inl h48)
      split at h
      · rename_i hle
        cases h
        have hpos : natOf (digs l) ≠ 0 := fun e => by
          rw [e, decDigits] at hb
          rw [← hb] at h48
          exact h48 rfl
        refine ⟨?_, by omega, by omega⟩
        unfold itoa
        rw [if_pos (by omega), show (-(natOf (digs l) : Int)).natAbs = natOf (digs l) by omega, hb, hd]
        exact hc
      · cases h
    · rw [if_neg h45] at h
      have hd : digs l = l := if_neg h45
      rw [hd] at hl h h3 h4
      have hb := dec_back n l hl h4 (by
        rcases h3 with h3 | h3
        · exact .inl (by simpa using h3)
        · have := of_decide_eq_true h3
          rw [this] at hl
          exact .inr (by simpa using hl.symm))
      split at h
      · rename_i hlt
        cases h
        refine ⟨?_, by omega, by omega⟩
        unfold itoa
        rw [if_neg (by omega), show ((natOf l : Int)).toNat = natOf l by omega, hb]
      · cases h
  · rw [if_neg hf] at h
    cases h

theorem parse_digits : ∀ (d : List UInt8) (a : Nat), d.all dig = true → d.foldl (fun n c => 10 * n + (c.toNat - 48)) a < 18446744073709551616 → parseUint10 a d = .ok (d.foldl (fun n c => 10 * n + (c.toNat - 48)) a) := by
  have mono : ∀ (d : List UInt8) (a : Nat), a ≤ d.foldl (fun n c => 10 * n + (c.toNat - 48)) a := by
    intro d
    induction d with
    | nil => intro a; exact Nat.le_refl _
    | cons c r ih => intro a; rw [List.foldl_cons]; exact Nat.le_trans (by omega) (ih _)
  intro d
  induction d with
  | nil => intro a _ _; rfl
  | cons c r ih =>
    intro a ha hlt
    rw [List.all_cons, Bool.and_eq_true] at ha
    have hc := dig_nat ha.1
    rw [List.foldl_cons] at hlt
    have hm := mono r (10 * a + (c.toNat - 48))
    rw [parseUint10, if_pos hc, if_neg (by omega), if_neg (by omega), List.foldl_cons, show a * 10 + (c.toNat - 48) = 10 * a + (c.toNat - 48) by omega]
    exact ih _ ha.2 hlt

theorem mag_digits {d : List UInt8} (hne : d ≠ []) (ha : d.all dig = true) (hlt : natOf d < 18446744073709551616) : parseMag d = .ok (natOf d) := by
  unfold parseMag
  rw [if_neg hne]
  exact parse_digits d 0 ha hlt

theorem atoi_itoa (v : Int) (h0 : -9223372036854775808 ≤ v) (h1 : v ≤ 9223372036854775807) : atoiAll (itoa v) = .ok v := by
  unfold itoa
  split
  · rename_i hn
    unfold atoiAll
    have h45 : (45 : UInt8).toNat = 45 := rfl
    simp only [h45, or_true, if_true]
    rw [mag_digits (decDigits_ne _) (decDigits_all _) (by rw [decDigits_nat]; omega), decDigits_nat]
    simp only [not_true, false_and, if_false, true_and]
    rw [if_neg (by omega)]
    congr 1
    omega
  · rename_i hn
    have hall := decDigits_all v.toNat
    have hnat := decDigits_nat v.toNat
    cases hd : decDigits v.toNat with
    | nil => exact absurd hd (decDigits_ne _)
    | cons c r =>
      rw [hd] at hall hnat
      have hc := dig_nat (by rw [List.all_cons, Bool.and_eq_true] at hall; exact hall.1)
      unfold atoiAll
      have h43 : ¬ (c.toNat = 43 ∨ c.toNat = 45) := by omega
      have h45 : ¬ c.toNat = 45 := by omega
      simp only [if_neg h43]
      rw [mag_digits (by simp) hall (by rw [hnat]; omega), hnat]
      simp only [h45, not_false_eq_true, true_and, false_and, if_false]
      rw [if_neg (by omega)]
      congr 1
      omega

/-- What is read and written again as it stood is the number; what is not is none. -/
theorem num_of_atoi {l : List UInt8} {v : Int} (_ha : atoiAll l = .ok v) (he : itoa v = l) (hb : -9223372036854775808 ≤ v ∧ v ≤ 9223372036854775807) : num l = some v := by
  rw [← he]
  exact (itoa_parts v hb.1 hb.2).1

theorem num_none {l : List UInt8} (h : ∀ v, atoiAll l = .ok v → itoa v ≠ l) : num l = none := by
  cases hn : num l with
  | none => rfl
  | some v =>
    obtain ⟨he, h0, h1⟩ := num_itoa hn
    exact absurd he.symm (h v (by rw [he]; exact atoi_itoa v h0 h1))

end Go.Proofs.YtmodiemmcdocdaaDoor.LX

namespace Go.Proofs.YtmodiemmcdocdaaDoor
open Go.RowKit Go

/-- A token's cells. -/
def tokC (t : LX.Tok) : List Value := [.int .i64 (t.kind : Nat), .string ⟨t.says.toArray⟩, .int .i64 t.n, .int .i64 (t.place : Nat)]
def flatT : List LX.Tok → List Value
  | [] => []
  | t :: r => tokC t ++ flatT r

theorem flatT_length : ∀ R : List LX.Tok, (flatT R).length = R.length * 4
  | [] => rfl
  | x :: r => by simp only [flatT, List.length_append, flatT_length r, tokC, List.length_cons, List.length_nil]; omega

theorem flatT_append : ∀ R S : List LX.Tok, flatT (R ++ S) = flatT R ++ flatT S
  | [], _ => rfl
  | x :: r, S => by simp only [List.cons_append, flatT, flatT_append r S, List.append_assoc]

theorem info36 : (Tryd.prog.info? 64).map (fun i => (i.zero, i.size, i.bytes)) = some (some (.agg #[.int .i64 0, .string ⟨#[]⟩, .int .i64 0, .int .i64 0]), 4, 40) := by kernel_rfl

theorem elem36 : ∃ i z, Elem Tryd.prog 54 64 i z 4 40 := by
  obtain ⟨i, hi, hz, hs, hb⟩ := info_parts info36
  exact ⟨i, _, Tryd.underlying54, hi, hz, hs, hb, by kernel_rfl⟩

theorem src_tok (w : World) (g : Nat) (hg : g = w.heap.size) (t : LX.Tok) (a b c d : Value) (h : tokC t = [a, b, c, d]) : Src Tryd.prog 4 54 (.slice (some ⟨g, 0, none⟩) 1 1) 1 (flatT [t]) (w.alloc (.cells #[a, b, c, d] 64)) := by
  subst hg
  have e : flatT [t] = [a, b, c, d] := by simp only [flatT, List.append_nil, h]
  rw [e]
  refine Src.ofSlice _ Tryd.underlying54 ⟨w.heap.size, 0, none⟩ 1 1 _ rfl (fun j u hu => ?_) (fun u hu => ?_)
  · rw [add_lit0]
    rw [World.cell?_alloc_new]
    simpa using hu
  · have h' := h
    simp only [tokC, List.cons.injEq, and_true] at h'
    obtain ⟨rfl, rfl, rfl, rfl⟩ := h'
    simp only [List.mem_cons, List.not_mem_nil, or_false] at hu
    rcases hu with rfl | rfl | rfl | rfl <;> rfl

/-- What Lex answers: all tokens, or the error's number and its place. -/
def LexPost (R : Except (Nat × Nat) (List LX.Tok)) (w : World) (e : Ending) (w' : World) : Prop :=
  Below w.heap.size w w' ∧ match R with
    | .error p => e = .returned (.tuple #[.slice none 0 0, .int .i64 (p.1 : Nat), .int .i64 (p.2 : Nat)])
    | .ok ts => ∃ v, e = .returned (.tuple #[v, .int .i64 0, .int .i64 0]) ∧ Rk 4 (fun b => w.heap.size ≤ b) w' v ts.length (flatT ts)

theorem toks_at {l : List UInt8} {k : Nat} {ts : List LX.Tok} {c : UInt8} {q : List UInt8} (hd : l.drop k = c :: q) (h : LX.toks 0 l = (LX.toks k (l.drop k)).map (ts ++ ·)) {kd m : Nat} {says : List UInt8} {n : Int} (hc : c ≠ 32) (ht : LX.tok c q = some (kd, says, n, m)) :
    LX.toks 0 l = (LX.toks (k + m) (l.drop (k + m))).map ((ts ++ [⟨kd, says, n, k + 1⟩]) ++ ·) := by
  rw [h, hd, LX.toks_some hc ht, ← hd, List.drop_drop]
  cases LX.toks (k + m) (l.drop (k + m)) with
  | error e => rfl
  | ok r =>
    simp only [Except.map, List.append_assoc, List.singleton_append]

theorem lex_none {l : List UInt8} {k : Nat} {ts : List LX.Tok} {c : UInt8} {q : List UInt8} (h1 : l.length ≤ 1024) (hu : LX.U8 l) (hd : l.drop k = c :: q) (h : LX.toks 0 l = (LX.toks k (l.drop k)).map (ts ++ ·)) (hc : c ≠ 32) (ht : LX.tok c q = none) :
    LX.lex l = .error (4, k + 1) := by
  rw [LX.lex_u8 h1 hu, h, hd, LX.toks_none hc ht]
  rfl

/-- Behind the append of a token. -/
theorem tok_app {X : Nat → Prop} {w wr WX w2 : World} {o : Obj} {ao : Option Addr} {co : Nat} {v' : Value} {ts : List LX.Tok} {t : LX.Tok} (hb : Below w.heap.size w wr) (hrk : Rk 4 (fun b => w.heap.size ≤ b) wr (.slice ao ts.length co) ts.length (flatT ts)) (hlx : Lay wr WX)
    (h2 : Rk 4 (fun b => w.heap.size ≤ b ∧ X b) w2 v' (ts.length + 1) (flatT ts ++ flatT [t])) (hk : Keep (At (.slice ao ts.length co)) (WX.alloc o) w2) :
    Rk 4 (fun b => w.heap.size ≤ b) w2 v' (ts ++ [t]).length (flatT (ts ++ [t])) ∧ Below w.heap.size w w2 := by
  rw [← flatT_append] at h2
  refine ⟨by rw [List.length_append]; exact h2.mono fun b h _ => h.1, ?_⟩
  have hl : Lay wr (WX.alloc o) := hlx.alloc _
  have h3 : Below w.heap.size w (WX.alloc o) := hb.trans (hl.below.mono hb.size)
  exact h3.trans (hk.below (fun b ha => (hrk.at ha).1) h3.size)

theorem str_of {a : ByteArray} {l : List UInt8} (h : a.data.toList = l) : a = ⟨l.toArray⟩ := by
  subst h
  cases a
  rfl

theorem tok_at {k : Nat} {kd : Nat} {says : List UInt8} {n : Int} {x : ByteArray} (h : x.data.toList = says) : tokC ⟨kd, says, n, k + 1⟩ = [.int .i64 (kd : Nat), .string x, .int .i64 n, .int .i64 ((k : Int) + 1)] := by
  unfold tokC
  rw [← str_of h]
  rfl

theorem tok_c1 {w wr WX : World} (hws : w.heap.size ≤ wr.heap.size) (hl : Lay wr WX) (o : Obj) : ∀ b, (WX.alloc o).heap.size ≤ b → w.heap.size ≤ b := fun b hb => by
  have h := hl.size
  simp at hb
  omega

theorem run_next {l : List UInt8} {k p : Nat} {b : UInt8} {q : List UInt8} (hp : k + 1 ≤ p) (hd : l.drop p = b :: q) (hb : MW.ch b = true) :
    (l.drop (k + 1)).take (p - (k + 1)) ++ LX.run (l.drop p) = (l.drop (k + 1)).take (p + 1 - (k + 1)) ++ LX.run (l.drop (p + 1)) := by
  have hpl : p < l.length := by
    have := congrArg List.length hd
    rw [List.length_drop, List.length_cons] at this
    omega
  have hq : l.drop (p + 1) = q := by
    rw [← List.drop_drop, hd]
    rfl
  have e : (l.drop (k + 1)).take (p + 1 - (k + 1)) = (l.drop (k + 1)).take (p - (k + 1)) ++ [b] := by
    have h1 : p - (k + 1) < (l.drop (k + 1)).length := by rw [List.length_drop]; omega
    rw [show p + 1 - (k + 1) = p - (k + 1) + 1 by omega, List.take_succ_eq_append_getElem h1, List.getElem_drop]
    have h2 := List.drop_eq_getElem_cons hpl
    rw [hd] at h2
    congr 2
    have h3 : k + 1 + (p - (k + 1)) = p := by omega
    simp only [h3]
    exact (List.cons.inj h2).1.symm
  rw [e, hd, hq, List.append_assoc]
  congr 1
  unfold LX.run
  rw [List.takeWhile_cons_of_pos hb]
  rfl

theorem run_end (s : ByteArray) (p : Nat) (h : ∀ h : p < s.size, ¬ MW.ch s[p] = true) : LX.run (s.data.toList.drop p) = [] := by
  by_cases hp : p < s.size
  · rw [byte_drop s p hp]
    unfold LX.run
    rw [List.takeWhile_cons_of_neg (by simpa using h hp)]
  · rw [List.drop_of_length_le (by rw [← Lib.size_eq]; omega)]
    rfl

/-- A token's block. -/
def Box (g : Nat) (W : World) (a b c d : Value) : Prop :=
  g < W.heap.size ∧ W.cell? ⟨g, 0, none⟩ = some a ∧ W.cell? ⟨g, 1, none⟩ = some b ∧ W.cell? ⟨g, 2, none⟩ = some c ∧ W.cell? ⟨g, 3, none⟩ = some d ∧ ∀ j, W.frozen? ⟨g, j, none⟩ = false

theorem Box.new (wr : World) (a b c d : Value) : ∃ W0 g, W0 = wr.alloc (.cells #[a, b, c, d] 64) ∧ g = wr.heap.size ∧ Lay wr W0 ∧ Box g W0 a b c d :=
  ⟨_, _, rfl, rfl, (Keep.refl _ _).alloc _, by simp, World.cell?_alloc_new .., World.cell?_alloc_new .., World.cell?_alloc_new .., World.cell?_alloc_new .., fun j => World.frozen?_alloc_new ..⟩

theorem Box.lay {g : Nat} {W W' : World} {a b c d : Value} (h : Box g W a b c d) (hl : Lay W W') : Box g W' a b c d := by
  obtain ⟨h0, h1, h2, h3, h4, h5⟩ := h
  exact ⟨Nat.lt_of_lt_of_le h0 hl.size, (hl.cell h0).trans h1, (hl.cell h0).trans h2, (hl.cell h0).trans h3, (hl.cell h0).trans h4, fun j => (World.frozen?_of_block (a := ⟨g, j, none⟩) (hl.block h0)).trans (h5 j)⟩

theorem Box.set1 {g : Nat} {W : World} {a b c d : Value} (h : Box g W a b c d) (x : Value) : Box g (W.setCell ⟨g, 1, none⟩ x) a x c d := by
  obtain ⟨h0, h1, h2, h3, h4, h5⟩ := h
  refine ⟨by simpa [World.setCell] using h0, ?_, ?_, ?_, ?_, fun j => ?_⟩
  all_goals go_simp

end Go.Proofs.YtmodiemmcdocdaaDoor
