/-
  A QUERY's LETTERS AS TOKENS: no program in it.
-/
import Derived.Test.YtjghomppmphkoaaGreatDoorWords
namespace Go.Proofs.YtjghomppmphkoaaGreatDoor.LX
open Go MW

/-! ### What is UTF-8 -/

/-- Does no rune begin here? -/
def bad (l : List UInt8) : Bool := decide ((dec l).1 = 65533) && decide ((dec l).2 = 1)

theorem bad_low (c : UInt8) (r : List UInt8) (h : c.toNat < 128) : bad (c :: r) = false := by
  unfold bad
  rw [dec_low c r h]
  simp
  omega

def vf : Nat → List UInt8 → Nat
  | 0, _ => 0
  | f + 1, l => if l = [] then 0 else if bad l = true then 0 else (dec l).2 + vf f (l.drop (dec l).2)

theorem vf_fuel : ∀ (n : Nat) (l : List UInt8) (f g : Nat), l.length ≤ n → l.length ≤ f → l.length ≤ g → vf f l = vf g l := by
  intro n
  induction n with
  | zero =>
    intro l f g h _ _
    obtain rfl := List.length_eq_zero_iff.1 (Nat.le_zero.1 h)
    cases f <;> cases g <;> simp [vf]
  | succ n ih =>
    intro l f g h hf hg
    by_cases hl : l = []
    · subst hl; cases f <;> cases g <;> simp [vf]
    · have hd := drop_lt l hl
      have hp := List.length_pos_iff.2 hl
      obtain ⟨f, rfl⟩ : ∃ k, f = k + 1 := ⟨f - 1, by omega⟩
      obtain ⟨g, rfl⟩ : ∃ k, g = k + 1 := ⟨g - 1, by omega⟩
      simp only [vf, if_neg hl]
      rw [ih _ f g (by omega) (by omega) (by omega)]

/-- How many bytes, from the first one on, are UTF-8. -/
def valid (l : List UInt8) : Nat := vf l.length l
theorem valid_nil : valid [] = 0 := rfl
theorem valid_bad (l : List UInt8) (h : bad l = true) : valid l = 0 := by
  unfold valid
  cases hl : l.length with
  | zero => rfl
  | succ n => simp [vf, h]
theorem valid_step (l : List UInt8) (hl : l ≠ []) (h : bad l = false) : valid l = (dec l).2 + valid (l.drop (dec l).2) := by
  have hd := drop_lt l hl
  have hp := List.length_pos_iff.2 hl
  unfold valid
  obtain ⟨n, hn⟩ : ∃ n, l.length = n + 1 := ⟨l.length - 1, by omega⟩
  rw [hn]
  simp only [vf, if_neg hl, h, Bool.false_eq_true, if_false]
  rw [vf_fuel n _ _ _ (by omega) (by omega) (Nat.le_refl _)]

inductive U8 : List UInt8 → Prop
  | nil : U8 []
  | step {l : List UInt8} : l ≠ [] → bad l = false → U8 (l.drop (dec l).2) → U8 l

theorem valid_le : ∀ (n : Nat) (l : List UInt8), l.length ≤ n → valid l ≤ l.length ∧ (valid l = l.length ↔ U8 l) := by
  intro n
  induction n with
  | zero =>
    intro l h
    obtain rfl := List.length_eq_zero_iff.1 (Nat.le_zero.1 h)
    exact ⟨Nat.le_refl _, fun _ => .nil, fun _ => rfl⟩
  | succ n ih =>
    intro l h
    by_cases hl : l = []
    · subst hl
      exact ⟨Nat.le_refl _, fun _ => .nil, fun _ => rfl⟩
    have hp := List.length_pos_iff.2 hl
    have hd := drop_lt l hl
    have hle := dec_le l hl
    cases hb : bad l with
    | true =>
      rw [valid_bad l hb]
      refine ⟨Nat.zero_le _, fun e => by omega, fun hu => ?_⟩
      cases hu with
      | nil => exact absurd rfl hl
      | step _ h1 _ => rw [hb] at h1; cases h1
    | false =>
      obtain ⟨h1, h2⟩ := ih (l.drop (dec l).2) (by omega)
      rw [valid_step l hl hb]
      rw [List.length_drop] at h1 h2
      refine ⟨by omega, fun e => .step hl hb (h2.1 (by omega)), fun hu => ?_⟩
      cases hu with
      | nil => exact absurd rfl hl
      | step _ _ h3 => have := h2.2 h3; omega

theorem u8_iff (l : List UInt8) : valid l = l.length ↔ U8 l := (valid_le _ l (Nat.le_refl _)).2

/-- A rune stands for itself, whatever is behind it; its bytes, but a lone one, are no ASCII. -/
theorem dec_keep (l : List UInt8) (hl : l ≠ []) (h : bad l = false) : (∀ q, dec (l.take (dec l).2 ++ q) = dec l) ∧ ((∃ c r, l = c :: r ∧ c.toNat < 128 ∧ (dec l).2 = 1) ∨ ∀ c ∈ l.take (dec l).2, 128 ≤ c.toNat) := by
  have hne : ¬ ((dec l).1 = 65533 ∧ (dec l).2 = 1) := fun ⟨a, b⟩ => by unfold bad at h; rw [a, b] at h; simp at h
  clear h
  revert hne
  have key : ∀ n b0 b1 b2 b3, ¬ ((Lib.decodeN n b0 b1 b2 b3).1 = 65533 ∧ (Lib.decodeN n b0 b1 b2 b3).2 = 1) →
      (b0 < 128 ∧ Lib.decodeN n b0 b1 b2 b3 = (b0, 1)) ∨ (∃ c, 128 ≤ b0 ∧ 128 ≤ b1 ∧ 1 < n ∧ Lib.decodeN n b0 b1 b2 b3 = (c, 2) ∧ ∀ m x y, 1 < m → Lib.decodeN m b0 b1 x y = (c, 2)) ∨
      (∃ c, 128 ≤ b0 ∧ 128 ≤ b1 ∧ 128 ≤ b2 ∧ 2 < n ∧ Lib.decodeN n b0 b1 b2 b3 = (c, 3) ∧ ∀ m y, 2 < m → Lib.decodeN m b0 b1 b2 y = (c, 3)) ∨ (∃ c, 128 ≤ b0 ∧ 128 ≤ b1 ∧ 128 ≤ b2 ∧ 128 ≤ b3 ∧ 3 < n ∧ Lib.decodeN n b0 b1 b2 b3 = (c, 4) ∧ ∀ m, 3 < m → Lib.decodeN m b0 b1 b2 b3 = (c, 4)) := by
    intro n b0 b1 b2 b3
    unfold Lib.decodeN
    by_cases h0 : b0 < 128
    · intro _; exact .inl ⟨h0, by rw [if_pos h0]⟩
    rw [if_neg h0]
    by_cases h1 : b0 / 32 = 6 ∧ (1 < n ∧ b1 / 64 = 2)
    · rw [if_pos h1]
      split
      · rename_i hc
        intro _
        exact .inr (.inl ⟨_, by omega, by omega, h1.2.1, rfl, fun m x y hm => by rw [if_pos ⟨h1.1, hm, h1.2.2⟩]⟩)
      · intro h; exact absurd ⟨rfl, rfl⟩ h
    rw [if_neg h1]
    by_cases h2 : b0 / 16 = 14 ∧ (1 < n ∧ b1 / 64 = 2) ∧ (2 < n ∧ b2 / 64 = 2)
    · rw [if_pos h2]
      split
      · rename_i hc
        intro _
        refine .inr (.inr (.inl ⟨_, by omega, by omega, by omega, h2.2.2.1, rfl, fun m y hm => ?_⟩))
        rw [if_neg (by omega), if_pos ⟨h2.1, ⟨by omega, h2.2.1.2⟩, hm, h2.2.2.2⟩]
      · intro h; exact absurd ⟨rfl, rfl⟩ h
    rw [if_neg h2]
    by_cases h3 : b0 / 8 = 30 ∧ (1 < n ∧ b1 / 64 = 2) ∧ (2 < n ∧ b2 / 64 = 2) ∧ (3 < n ∧ b3 / 64 = 2)
    · rw [if_pos h3]
      split
      · rename_i hc
        intro _
        refine .inr (.inr (.inr ⟨_, by omega, by omega, by omega, by omega, h3.2.2.2.1, rfl, fun m hm => ?_⟩))
        rw [if_neg (by omega), if_neg (by omega), if_pos ⟨h3.1, ⟨by omega, h3.2.1.2⟩, ⟨by omega, h3.2.2.1.2⟩, hm, h3.2.2.2.2⟩]
      · intro h; exact absurd ⟨rfl, rfl⟩ h
    rw [if_neg h3]
    intro h; exact absurd ⟨rfl, rfl⟩ h
  intro hne
  rcases key _ _ _ _ _ hne with ⟨h0, e⟩ | ⟨c, g0, g1, hn, e, hr⟩ | ⟨c, g0, g1, g2, hn, e, hr⟩ | ⟨c, g0, g1, g2, g3, hn, e, hr⟩
  · have e' : dec l = _ := e
    match l, hl with
    | a :: r, _ =>
      have h0' : a.toNat < 128 := by simpa using h0
      refine ⟨fun q => ?_, .inl ⟨a, r, rfl, h0', by rw [e']⟩⟩
      rw [e']
      simp [dec, Lib.decodeN, h0']
  · have e' : dec l = _ := e
    match l, hn with
    | a :: b :: r, _ =>
      rw [e']
      refine ⟨fun q => hr _ _ _ (by simp), .inr fun x hx => ?_⟩
      simp at hx g0 g1
      rcases hx with rfl | rfl <;> assumption
  · have e' : dec l = _ := e
    match l, hn with
    | a :: b :: c :: r, _ =>
      rw [e']
      refine ⟨fun q => hr _ _ (by simp), .inr fun x hx => ?_⟩
      simp at hx g0 g1 g2
      rcases hx with rfl | rfl | rfl <;> assumption
  · have e' : dec l = _ := e
    match l, hn with
    | a :: b :: c :: d :: r, _ =>
      rw [e']
      refine ⟨fun q => hr _ (by simp), .inr fun x hx => ?_⟩
      simp at hx g0 g1 g2 g3
      rcases hx with rfl | rfl | rfl | rfl <;> assumption

theorem bad_keep (l : List UInt8) (hl : l ≠ []) (h : bad l = false) (q : List UInt8) : bad (l.take (dec l).2 ++ q) = false := by
  unfold bad
  rw [(dec_keep l hl h).1 q]
  exact h

/-- A rune ahead of what is UTF-8. -/
theorem U8.rune {l q : List UInt8} (hl : l ≠ []) (h : bad l = false) (hq : U8 q) : U8 (l.take (dec l).2 ++ q) := by
  have hd := dec_pos l
  have hle := dec_le l hl
  refine .step ?_ (bad_keep l hl h q) ?_
  · intro e
    have := congrArg List.length e
    simp only [List.length_append, List.length_take, List.length_nil] at this
    omega
  · rw [(dec_keep l hl h).1 q, List.drop_append_of_le_length (by rw [List.length_take]; omega), List.drop_eq_nil_of_le (by rw [List.length_take]; omega), List.nil_append]
    exact hq

theorem U8.append {a b : List UInt8} (ha : U8 a) (hb : U8 b) : U8 (a ++ b) := by
  induction ha with
  | nil => exact hb
  | @step l hl h _ ih =>
    rw [← List.take_append_drop (dec l).2 l, List.append_assoc]
    exact U8.rune hl h ih

theorem U8.cons {c : UInt8} {r : List UInt8} (h : c.toNat < 128) (hr : U8 r) : U8 (c :: r) := by
  refine .step (by simp) (bad_low c r h) ?_
  rw [dec_low c r h]
  exact hr

theorem U8.tail {c : UInt8} {r : List UInt8} (h : U8 (c :: r)) (hc : c.toNat < 128) : U8 r := by
  cases h with
  | step _ _ h3 =>
    rw [dec_low c r hc] at h3
    exact h3

theorem U8.low {l : List UInt8} (h : l.all low = true) : U8 l := by
  induction l with
  | nil => exact .nil
  | cons c r ih =>
    rw [List.all_cons, Bool.and_eq_true] at h
    exact U8.cons (of_decide_eq_true h.1) (ih h.2)

/-! ### Texts -/

/-- What a quoted text says, and of how many bytes it is: behind the first ". -/
def text : List UInt8 → Option (List UInt8 × Nat)
  | [] => none
  | [c] => if c = 34 then some ([], 1) else none
  | c :: d :: r => if c = 10 then none else if c = 34 then some ([], 1) else if c = 92 then (if d = 34 ∨ d = 92 then (text r).map fun p => (d :: p.1, p.2 + 2) else none) else (text (d :: r)).map fun p => (c :: p.1, p.2 + 1)

theorem text_lf (r : List UInt8) : text (10 :: r) = none := by
  cases r with
  | nil => simp [text]
  | cons d r => simp [text]
theorem text_end (r : List UInt8) : text (34 :: r) = some ([], 1) := by
  cases r with
  | nil => simp [text]
  | cons d r => simp [text]
theorem text_esc (d : UInt8) (r : List UInt8) : text (92 :: d :: r) = if d = 34 ∨ d = 92 then (text r).map fun p => (d :: p.1, p.2 + 2) else none := by
  rw [text, if_neg (by decide), if_neg (by decide), if_pos rfl]
theorem text_esc0 : text [92] = none := by simp [text]
theorem text_other (c : UInt8) (r : List UInt8) (h1 : c ≠ 10) (h2 : c ≠ 34) (h3 : c ≠ 92) : text (c :: r) = (text r).map fun p => (c :: p.1, p.2 + 1) := by
  cases r with
  | nil => simp [text, h2]
  | cons d r => rw [text, if_neg h1, if_neg h2, if_neg h3]

/-- A text's letters, with a stroke ahead of each sign that needs one. -/
def esc : List UInt8 → List UInt8
  | [] => []
  | c :: r => if c = 34 ∨ c = 92 then 92 :: c :: esc r else c :: esc r

def isText (l : List UInt8) : Bool := !l.contains 10 && decide (valid l = l.length)
def quote (l : List UInt8) : List UInt8 := if isText l = true then 34 :: (esc l ++ [34]) else []

theorem esc_append : ∀ a b : List UInt8, esc (a ++ b) = esc a ++ esc b
  | [], _ => rfl
  | c :: r, b => by
    simp only [List.cons_append, esc, esc_append r b]
    split <;> rfl

theorem esc_len : ∀ l : List UInt8, l.length ≤ (esc l).length ∧ (esc l).length ≤ 2 * l.length
  | [] => by simp [esc]
  | c :: r => by
    have := esc_len r
    simp only [esc]
    split <;> simp only [List.length_cons] <;> omega

theorem esc_high : ∀ l : List UInt8, (∀ c ∈ l, 128 ≤ c.toNat) → esc l = l
  | [], _ => rfl
  | c :: r, h => by
    have hc := h c (by simp)
    have h34 : c ≠ 34 := fun e => by subst e; exact absurd hc (by decide)
    have h92 : c ≠ 92 := fun e => by subst e; exact absurd hc (by decide)
    rw [esc, if_neg (by simp [h34, h92]), esc_high r fun x hx => h x (by simp [hx])]

theorem esc_u8 {l : List UInt8} (h : U8 l) : U8 (esc l) := by
  induction h with
  | nil => exact .nil
  | @step l hl hb h3 ih =>
    rcases (dec_keep l hl hb).2 with ⟨c, r, rfl, hc, h1⟩ | hhi
    · rw [h1] at ih
      simp only [List.drop_succ_cons, List.drop_zero] at ih
      simp only [esc]
      split
      · exact U8.cons (by decide) (U8.cons hc ih)
      · exact U8.cons hc ih
    · have e : esc l = l.take (dec l).2 ++ esc (l.drop (dec l).2) := by
        conv => lhs; rw [← List.take_append_drop (dec l).2 l]
        rw [esc_append, esc_high _ hhi]
      rw [e]
      exact U8.rune hl hb ih

theorem text_quote (q : List UInt8) : ∀ l : List UInt8, l.contains 10 = false → text (esc l ++ 34 :: q) = some (l, (esc l).length + 1)
  | [], _ => by rw [esc, List.nil_append, text_end]; rfl
  | c :: r, h => by
    have h1 : c ≠ 10 := fun e => by subst e; simp at h
    have h2 : r.contains 10 = false := by
      rw [List.contains_cons, Bool.or_eq_false_iff] at h
      exact h.2
    have ih := text_quote q r h2
    by_cases hc : c = 34 ∨ c = 92
    · rw [esc, if_pos hc, List.cons_append, List.cons_append, text_esc, if_pos hc, ih]
      rfl
    · have h34 : c ≠ 34 := fun e => hc (.inl e)
      have h92 : c ≠ 92 := fun e => hc (.inr e)
      rw [esc, if_neg hc, List.cons_append, text_other c _ h1 h34 h92, ih]
      rfl

/-- What a text says, quoted, is the letters that it was read from. -/
theorem text_back : ∀ (n : Nat) (l s : List UInt8) (m : Nat), l.length ≤ n → text l = some (s, m) → s.contains 10 = false ∧ 1 ≤ m ∧ m ≤ l.length ∧ l.take m = esc s ++ [34] := by
  intro n
  induction n with
  | zero =>
    intro l s m h ht
    obtain rfl := List.length_eq_zero_iff.1 (Nat.le_zero.1 h)
    simp [text] at ht
  | succ n ih =>
    intro l s m h ht
    match l, h, ht with
    | [], _, ht => simp [text] at ht
    | c :: r, h, ht =>
      simp only [List.length_cons] at h
      by_cases h1 : c = 10
      · subst h1; rw [text_lf] at ht; cases ht
      by_cases h2 : c = 34
      · subst h2
        rw [text_end] at ht
        simp only [Option.some.injEq, Prod.mk.injEq] at ht
        obtain ⟨rfl, rfl⟩ := ht
        exact ⟨rfl, Nat.le_refl _, by simp, by simp [esc]⟩
      by_cases h3 : c = 92
      · subst h3
        match r, h, ht with
        | [], _, ht => rw [text_esc0] at ht; cases ht
        | d :: r, h, ht =>
          rw [text_esc] at ht
          split at ht
          · rename_i hd
            rw [Option.map_eq_some_iff] at ht
            obtain ⟨⟨s', m'⟩, ht2, he⟩ := ht
            simp only [Prod.mk.injEq] at he
            obtain ⟨rfl, rfl⟩ := he
            simp only [List.length_cons] at h
            obtain ⟨g1, g2, g3, g4⟩ := ih r s' m' (by omega) ht2
            have hd10 : d ≠ 10 := by rcases hd with rfl | rfl <;> decide
            refine ⟨?_, by omega, by simp only [List.length_cons]; omega, ?_⟩
            · rw [List.contains_cons, g1, Bool.or_false]
              simpa using fun e : (10 : UInt8) = d => hd10 e.symm
            · rw [List.take_succ_cons, List.take_succ_cons, g4, esc, if_pos hd]
              rfl
          · cases ht
      · rw [text_other c r h1 h2 h3, Option.map_eq_some_iff] at ht
        obtain ⟨⟨s', m'⟩, ht2, he⟩ := ht
        simp only [Prod.mk.injEq] at he
        obtain ⟨rfl, rfl⟩ := he
        obtain ⟨g1, g2, g3, g4⟩ := ih r s' m' (by omega) ht2
        refine ⟨?_, by omega, by simp only [List.length_cons]; omega, ?_⟩
        · rw [List.contains_cons, g1, Bool.or_false]
          simpa using fun e : (10 : UInt8) = c => h1 e.symm
        · rw [List.take_succ_cons, g4, esc, if_neg (by simp [h2, h3])]
          rfl

theorem text_high (q : List UInt8) : ∀ l : List UInt8, (∀ c ∈ l, 128 ≤ c.toNat) → text (l ++ q) = (text q).map fun p => (l ++ p.1, p.2 + l.length)
  | [], _ => by simp
  | c :: r, h => by
    have hc := h c (by simp)
    have h10 : c ≠ 10 := fun e => by subst e; exact absurd hc (by decide)
    have h34 : c ≠ 34 := fun e => by subst e; exact absurd hc (by decide)
    have h92 : c ≠ 92 := fun e => by subst e; exact absurd hc (by decide)
    rw [List.cons_append, text_other c _ h10 h34 h92, text_high q r fun x hx => h x (by simp [hx]), Option.map_map]
    rfl

theorem text_u8 : ∀ (n : Nat) (l s : List UInt8) (m : Nat), l.length ≤ n → U8 l → text l = some (s, m) → U8 s := by
  intro n
  induction n with
  | zero =>
    intro l s m h _ ht
    obtain rfl := List.length_eq_zero_iff.1 (Nat.le_zero.1 h)
    simp [text] at ht
  | succ n ih =>
    intro l s m h hu ht
    cases hu with
    | nil => simp [text] at ht
    | step hl hb h3 =>
      rcases (dec_keep l hl hb).2 with ⟨c, r, rfl, hc, h1⟩ | hhi
      · rw [h1, List.drop_succ_cons, List.drop_zero] at h3
        simp only [List.length_cons] at h
        by_cases h1 : c = 10
        · subst h1; rw [text_lf] at ht; cases ht
        by_cases h2 : c = 34
        · subst h2
          rw [text_end] at ht
          simp only [Option.some.injEq, Prod.mk.injEq] at ht
          obtain ⟨rfl, rfl⟩ := ht
          exact .nil
        by_cases h3' : c = 92
        · subst h3'
          match r, h, ht, h3 with
          | [], _, ht, _ => rw [text_esc0] at ht; cases ht
          | d :: r, h, ht, h3 =>
            rw [text_esc] at ht
            split at ht
            · rename_i hd
              rw [Option.map_eq_some_iff] at ht
              obtain ⟨⟨s', m'⟩, ht2, he⟩ := ht
              simp only [Prod.mk.injEq] at he
              obtain ⟨rfl, rfl⟩ := he
              simp only [List.length_cons] at h
              have hdl : d.toNat < 128 := by rcases hd with rfl | rfl <;> decide
              exact U8.cons hdl (ih r s' m' (by omega) (h3.tail hdl) ht2)
            · cases ht
        · rw [text_other c r h1 h2 h3', Option.map_eq_some_iff] at ht
          obtain ⟨⟨s', m'⟩, ht2, he⟩ := ht
          simp only [Prod.mk.injEq] at he
          obtain ⟨rfl, rfl⟩ := he
          exact U8.cons hc (ih r s' m' (by omega) h3 ht2)
      · have e := text_high (l.drop (dec l).2) _ hhi
        rw [List.take_append_drop] at e
        rw [e, Option.map_eq_some_iff] at ht
        obtain ⟨⟨s', m'⟩, ht2, he⟩ := ht
        simp only [Prod.mk.injEq] at he
        obtain ⟨rfl, rfl⟩ := he
        have hd := drop_lt l hl
        exact U8.rune hl hb (ih _ s' m' (by omega) h3 ht2)

end Go.Proofs.YtjghomppmphkoaaGreatDoor.LX
