/-
  A QUERY's LETTERS AS TOKENS: all of them. No program in it.
-/
import Derived.Test.YtjghomppmphkoaaGreatDoorLx
namespace Go.Proofs.YtjghomppmphkoaaGreatDoor.LX
open Go MW

theorem U8.strip {a b : List UInt8} (ha : U8 a) (h : U8 (a ++ b)) : U8 b := by
  induction ha with
  | nil => exact h
  | @step l hl hb _ ih =>
    have hd := dec_le l hl
    have e := (dec_keep l hl hb).1 (l.drop (dec l).2 ++ b)
    rw [← List.append_assoc, List.take_append_drop] at e
    cases h' : l ++ b with
    | nil => exact absurd (List.append_eq_nil_iff.1 h').1 hl
    | cons c r =>
      rw [h'] at h e
      cases h with
      | step _ _ h3 =>
        rw [e, ← h', List.drop_append_of_le_length hd] at h3
        exact ih h3

/-! ### Numbers -/

def natOf (l : List UInt8) : Nat := l.foldl (fun n c => 10 * n + (c.toNat - 48)) 0

/-- A number's digits, without a stroke ahead. -/
def digs (l : List UInt8) : List UInt8 := if l.headD 0 = 45 then l.tail else l

/-- Could it be a number, but for its size? -/
def numForm (l : List UInt8) : Bool := !(digs l).isEmpty && decide ((digs l).length ≤ 19) && (!decide ((digs l).headD 0 = 48) || decide (l = [48])) && (digs l).all dig

def num (l : List UInt8) : Option Int :=
  if numForm l = true then
    if l.headD 0 = 45 then (if natOf (digs l) ≤ 9223372036854775808 then some (-(natOf (digs l) : Int)) else none)
    else if natOf (digs l) < 9223372036854775808 then some (natOf (digs l)) else none
  else none

/-! ### Tokens -/

/-- Those that are no names. -/
def words : List (List UInt8) :=
  [[102, 114, 111, 109], [116, 111], [119, 104, 101, 114, 101], [102, 105, 110, 100], [100, 101, 115, 99], [108, 105, 109, 105, 116], [112, 97, 103, 101], [97, 110, 100], [111, 114], [110, 111, 116], [119, 111, 114, 100], [104, 97, 115], [102, 105, 101, 108, 100], [116, 114, 117, 101], [102, 97, 108, 115, 101]]
def isWord (l : List UInt8) : Bool := words.contains l

theorem word_name {l : List UInt8} (h : isWord l = true) : name l = true := by
  have : ∀ x ∈ words, name x = true := by decide
  exact this l (List.contains_iff_mem.1 h)

structure Tok where
  kind : Nat
  says : List UInt8
  n : Int
  place : Nat

/-- Letters, digits, underlines, as long as it goes on. -/
def run (r : List UInt8) : List UInt8 := r.takeWhile ch

def kindOf (w : List UInt8) : Option (Nat × Int) := if isWord w = true then some (2, 0) else if name w = true then some (1, 0) else (num w).map fun n => (3, n)

/-- The token that begins with c; how many bytes it has. -/
def tok (c : UInt8) (r : List UInt8) : Option (Nat × List UInt8 × Int × Nat) :=
  if c = 61 ∨ c = 40 ∨ c = 41 then some (5, [c], 0, 1)
  else if c = 33 ∧ r.head? = some 61 then some (5, [33, 61], 0, 2)
  else if c = 34 then (text r).map fun p => (4, p.1, 0, p.2 + 1)
  else if c = 45 ∨ ch c = true then (kindOf (c :: run r)).map fun p => (p.1, c :: run r, p.2, (run r).length + 1)
  else none

theorem run_le (r : List UInt8) : (run r).length ≤ r.length := (List.takeWhile_sublist _).length_le

theorem tok_len {c : UInt8} {r : List UInt8} {k m : Nat} {s : List UInt8} {n : Int} (h : tok c r = some (k, s, n, m)) : 1 ≤ m ∧ m ≤ r.length + 1 := by
  unfold tok at h
  split at h
  · simp only [Option.some.injEq, Prod.mk.injEq] at h
    omega
  split at h
  · rename_i h2
    simp only [Option.some.injEq, Prod.mk.injEq] at h
    cases r with
    | nil => simp at h2
    | cons d r => simp only [List.length_cons]; omega
  split at h
  · rw [Option.map_eq_some_iff] at h
    obtain ⟨⟨s', m'⟩, ht, he⟩ := h
    simp only [Prod.mk.injEq] at he
    have := text_back _ r s' m' (Nat.le_refl _) ht
    omega
  split at h
  · rw [Option.map_eq_some_iff] at h
    obtain ⟨⟨k', n'⟩, _, he⟩ := h
    simp only [Prod.mk.injEq] at he
    have := run_le r
    omega
  · cases h

def lf : Nat → Nat → List UInt8 → Except Nat (List Tok)
  | 0, _, _ => .ok []
  | f + 1, i, l => match l with
    | [] => .ok []
    | c :: r => if c = 32 then lf f (i + 1) r else match tok c r with
      | none => .error (i + 1)
      | some (k, s, n, m) => (lf f (i + m) ((c :: r).drop m)).map (⟨k, s, n, i + 1⟩ :: ·)

theorem lf_fuel : ∀ (x : Nat) (l : List UInt8) (i f g : Nat), l.length ≤ x → l.length ≤ f → l.length ≤ g → lf f i l = lf g i l := by
  intro x
  induction x with
  | zero =>
    intro l i f g h _ _
    obtain rfl := List.length_eq_zero_iff.1 (Nat.le_zero.1 h)
    cases f <;> cases g <;> simp [lf]
  | succ x ih =>
    intro l i f g h hf hg
    cases l with
    | nil => cases f <;> cases g <;> simp [lf]
    | cons c r =>
      simp only [List.length_cons] at h hf hg
      obtain ⟨f, rfl⟩ : ∃ k, f = k + 1 := ⟨f - 1, by omega⟩
      obtain ⟨g, rfl⟩ : ∃ k, g = k + 1 := ⟨g - 1, by omega⟩
      simp only [lf]
      split
      · exact ih _ _ _ _ (by omega) (by omega) (by omega)
      · split
        · rfl
        · rename_i k s n m ht
          have := tok_len ht
          rw [ih _ _ f g (by simp only [List.length_drop, List.length_cons]; omega) (by simp only [List.length_drop, List.length_cons]; omega) (by simp only [List.length_drop, List.length_cons]; omega)]

/-- All tokens but the last one, of what stands behind i bytes; or where there is none. -/
def toks (i : Nat) (l : List UInt8) : Except Nat (List Tok) := lf l.length i l

theorem toks_nil (i : Nat) : toks i [] = .ok [] := rfl
theorem toks_blank (i : Nat) (r : List UInt8) : toks i (32 :: r) = toks (i + 1) r := by
  unfold toks
  simp only [List.length_cons, lf, if_true]
theorem toks_none {i : Nat} {c : UInt8} {r : List UInt8} (hc : c ≠ 32) (h : tok c r = none) : toks i (c :: r) = .error (i + 1) := by
  unfold toks
  simp only [List.length_cons, lf, if_neg hc, h]
theorem toks_some {i : Nat} {c : UInt8} {r : List UInt8} (hc : c ≠ 32) {k m : Nat} {s : List UInt8} {n : Int} (h : tok c r = some (k, s, n, m)) : toks i (c :: r) = (toks (i + m) ((c :: r).drop m)).map (⟨k, s, n, i + 1⟩ :: ·) := by
  have := tok_len h
  unfold toks
  simp only [List.length_cons, lf, if_neg hc, h]
  rw [lf_fuel r.length _ _ _ _ (by simp only [List.length_drop, List.length_cons]; omega) (by simp only [List.length_drop, List.length_cons]; omega) (Nat.le_refl _)]

/-- What Lex answers: all tokens, or the error's number and its place. -/
def lex (l : List UInt8) : Except (Nat × Nat) (List Tok) :=
  if 1024 < l.length then .error (6, 1)
  else if valid l < l.length then .error (4, valid l + 1)
  else match toks 0 l with
    | .error p => .error (4, p)
    | .ok ts => .ok (ts ++ [⟨0, [], 0, l.length + 1⟩])

theorem lex_u8 {l : List UInt8} (h1 : l.length ≤ 1024) (h2 : U8 l) : lex l = match toks 0 l with
    | .error p => .error (4, p)
    | .ok ts => .ok (ts ++ [⟨0, [], 0, l.length + 1⟩]) := by
  unfold lex
  rw [if_neg (by omega), if_neg (by rw [(u8_iff l).2 h2]; omega)]

theorem lex_ok {l : List UInt8} {ts : List Tok} (h : lex l = .ok ts) : l.length ≤ 1024 ∧ U8 l ∧ ∃ ts', toks 0 l = .ok ts' ∧ ts = ts' ++ [⟨0, [], 0, l.length + 1⟩] := by
  unfold lex at h
  split at h
  · cases h
  split at h
  · cases h
  have hv := (valid_le _ l (Nat.le_refl _)).1
  refine ⟨by omega, (u8_iff l).1 (by omega), ?_⟩
  split at h
  · cases h
  · rename_i ts' ht
    exact ⟨ts', ht, by cases h; rfl⟩

/-! ### What a token says, read again -/

/-- A token's letters. -/
def Tok.letters (t : Tok) : List UInt8 := if t.kind = 4 then quote t.says else t.says

theorem isText_of {s : List UInt8} (h1 : s.contains 10 = false) (h2 : U8 s) : isText s = true := by
  unfold isText
  rw [h1, (u8_iff s).2 h2]
  simp

theorem quote_of {s : List UInt8} (h : isText s = true) : quote s = 34 :: (esc s ++ [34]) := if_pos h

theorem kindOf_small {w : List UInt8} {k : Nat} {n : Int} (h : kindOf w = some (k, n)) : k ≤ 3 ∧ (k = 1 ∨ k = 2 → name w = true ∧ (k = 2 ↔ isWord w = true)) := by
  unfold kindOf at h
  split at h
  · rename_i hw
    simp only [Option.some.injEq, Prod.mk.injEq] at h
    obtain ⟨rfl, _⟩ := h
    exact ⟨by omega, fun _ => ⟨word_name hw, fun _ => hw, fun _ => rfl⟩⟩
  split at h
  · rename_i hw hn
    simp only [Option.some.injEq, Prod.mk.injEq] at h
    obtain ⟨rfl, _⟩ := h
    exact ⟨by omega, fun _ => ⟨hn, fun h => absurd h (by decide), fun h => absurd h hw⟩⟩
  · rw [Option.map_eq_some_iff] at h
    obtain ⟨n', _, he⟩ := h
    simp only [Prod.mk.injEq] at he
    obtain ⟨rfl, _⟩ := he
    exact ⟨by omega, fun h => by omega⟩

theorem run_all (r : List UInt8) : (run r).all ch = true := List.all_takeWhile
theorem run_stop (a q : List UInt8) (h : a.all ch = true) : run (a ++ 32 :: q) = a := by
  unfold run
  rw [List.takeWhile_append_of_pos (by simpa using h)]
  simp [ch]
theorem run_self (a : List UInt8) (h : a.all ch = true) : run a = a := by
  have := List.takeWhile_append_of_pos (p := ch) (l₁ := a) (l₂ := []) (by simpa using h)
  rw [List.append_nil] at this
  unfold run
  rw [this]
  simp

theorem tok_back {c : UInt8} {r : List UInt8} {k m : Nat} {s : List UInt8} {n : Int} (h : tok c r = some (k, s, n, m)) (hu : U8 (c :: r)) (i : Nat) :
    ∃ r0, (Tok.mk k s n i).letters = c :: r0 ∧ (c :: r).take m = c :: r0 ∧ U8 (c :: r0) ∧ ∀ q, tok c (r0 ++ 32 :: q) = some (k, s, n, r0.length + 1) := by
  unfold tok at h
  split at h
  · rename_i h1
    simp only [Option.some.injEq, Prod.mk.injEq] at h
    obtain ⟨rfl, rfl, rfl, rfl⟩ := h
    refine ⟨[], rfl, rfl, ?_, fun q => ?_⟩
    · exact U8.low (by rcases h1 with rfl | rfl | rfl <;> decide)
    · unfold tok
      rw [if_pos h1]
      rfl
  rename_i h1
  split at h
  · rename_i h2
    obtain ⟨rfl, h2⟩ := h2
    simp only [Option.some.injEq, Prod.mk.injEq] at h
    obtain ⟨rfl, rfl, rfl, rfl⟩ := h
    refine ⟨[61], rfl, ?_, U8.low (by decide), fun q => by simp [tok]⟩
    cases r with
    | nil => simp at h2
    | cons d r => simp at h2; subst h2; rfl
  rename_i h2
  split at h
  · rename_i h3
    subst h3
    rw [Option.map_eq_some_iff] at h
    obtain ⟨⟨s', m'⟩, ht, he⟩ := h
    simp only [Prod.mk.injEq] at he
    obtain ⟨rfl, rfl, rfl, rfl⟩ := he
    have hb := text_back _ r s' m' (Nat.le_refl _) ht
    have hu' := text_u8 _ r s' m' (Nat.le_refl _) (hu.tail (by decide)) ht
    have hi := isText_of hb.1 hu'
    refine ⟨esc s' ++ [34], ?_, by rw [List.take_succ_cons, hb.2.2.2], ?_, fun q => ?_⟩
    · show quote s' = _
      exact quote_of hi
    · exact U8.cons (by decide) ((esc_u8 hu').append (U8.low (by decide)))
    · unfold tok
      rw [if_neg (by decide), if_neg (fun h => absurd h.1 (by decide)), if_pos rfl, List.append_assoc, List.singleton_append, text_quote _ _ hb.1]
      simp
  rename_i h3
  split at h
  · rename_i h4
    rw [Option.map_eq_some_iff] at h
    obtain ⟨⟨k', n'⟩, hk, he⟩ := h
    simp only [Prod.mk.injEq] at he
    obtain ⟨rfl, rfl, rfl, rfl⟩ := he
    have hs := kindOf_small hk
    refine ⟨run r, ?_, ?_, ?_, fun q => ?_⟩
    · unfold Tok.letters
      rw [if_neg (by simp only; omega)]
    · rw [List.take_succ_cons]
      have e : r = run r ++ r.dropWhile ch := (List.takeWhile_append_dropWhile (p := ch) (l := r)).symm
      have e2 : r.take (run r).length = (run r ++ r.dropWhile ch).take (run r).length := by rw [← e]
      rw [e2, List.take_left]
    · refine U8.cons ?_ (U8.low (List.all_eq_true.2 fun x hx => ch_low x (List.all_eq_true.1 (run_all r) x hx)))
      rcases h4 with rfl | h4
      · decide
      · exact of_decide_eq_true (ch_low c h4)
    · unfold tok
      rw [if_neg h1, if_neg ?_, if_neg h3, if_pos h4, run_stop _ _ (run_all r), hk]
      · rfl
      · rintro ⟨rfl, _⟩
        rcases h4 with h4 | h4
        · cases h4
        · exact absurd h4 (by decide)
  · cases h

/-- A token, but for its place. -/
def Tok.bare (t : Tok) : Nat × List UInt8 × Int := (t.kind, t.says, t.n)

/-- Tokens' letters, with b blanks behind each. -/
def glue (b : Nat) : List Tok → List UInt8
  | [] => []
  | t :: r => t.letters ++ (List.replicate b 32 ++ glue b r)

theorem toks_blanks (q : List UInt8) : ∀ (b i : Nat), toks i (List.replicate b 32 ++ q) = toks (i + b) q
  | 0, i => rfl
  | b + 1, i => by
    rw [List.replicate_succ, List.cons_append, toks_blank, toks_blanks q b (i + 1)]
    congr 1
    omega

theorem glue_back (b : Nat) (hb : 1 ≤ b) (z : Nat) : ∀ (n : Nat) (l : List UInt8) (i : Nat) (ts : List Tok), l.length ≤ n → U8 l → toks i l = .ok ts →
    U8 (glue b ts) ∧ ∀ j, ∃ ts', toks j (glue b ts ++ List.replicate z 32) = .ok ts' ∧ ts'.map Tok.bare = ts.map Tok.bare := by
  have hlow : ∀ b, U8 (List.replicate b 32) := fun b => U8.low (by rw [List.all_replicate]; simp [low])
  intro n
  induction n with
  | zero =>
    intro l i ts h _ ht
    obtain rfl := List.length_eq_zero_iff.1 (Nat.le_zero.1 h)
    rw [toks_nil] at ht
    cases ht
    exact ⟨.nil, fun j => ⟨[], by have := toks_blanks [] z j; rw [List.append_nil] at this; rw [glue, List.nil_append, this, toks_nil], rfl⟩⟩
  | succ n ih =>
    intro l i ts h hu ht
    cases l with
    | nil => exact ih [] i ts (by simp) hu ht
    | cons c r =>
      simp only [List.length_cons] at h
      by_cases hc : c = 32
      · subst hc
        rw [toks_blank] at ht
        exact ih r _ ts (by omega) (hu.tail (by decide)) ht
      · cases hk : tok c r with
        | none => rw [toks_none hc hk] at ht; cases ht
        | some p =>
          obtain ⟨k, s, x, m⟩ := p
          have hm := tok_len hk
          rw [toks_some hc hk] at ht
          cases hr : toks (i + m) ((c :: r).drop m) with
          | error e => rw [hr] at ht; cases ht
          | ok ts2 =>
            rw [hr] at ht
            cases ht
            obtain ⟨r0, hl, htk, hu0, hq⟩ := tok_back hk hu (i + 1)
            have hu2 : U8 ((c :: r).drop m) := U8.strip (htk ▸ hu0) (by rw [List.take_append_drop]; exact hu)
            obtain ⟨g1, g2⟩ := ih _ _ ts2 (by simp only [List.length_drop, List.length_cons]; omega) hu2 hr
            refine ⟨?_, fun j => ?_⟩
            · rw [glue, hl]
              exact hu0.append ((hlow b).append g1)
            · obtain ⟨ts', h1, h2⟩ := g2 (j + (r0.length + 1) + b)
              obtain ⟨b, rfl⟩ : ∃ b', b = b' + 1 := ⟨b - 1, by omega⟩
              have e : glue (b + 1) (⟨k, s, x, i + 1⟩ :: ts2) ++ List.replicate z 32 = c :: (r0 ++ 32 :: (List.replicate b 32 ++ (glue (b + 1) ts2 ++ List.replicate z 32))) := by
                rw [glue, hl, List.replicate_succ]
                simp
              refine ⟨⟨k, s, x, j + 1⟩ :: ts', ?_, by rw [List.map_cons, List.map_cons, h2]; rfl⟩
              rw [e, toks_some hc (hq _), List.drop_succ_cons, List.drop_left, ← List.cons_append, ← List.replicate_succ, toks_blanks, h1]
              rfl

/-- With b blanks behind each token all tokens are the same again, but for their places. -/
theorem lex_glue {l : List UInt8} {ts : List Tok} (h : lex l = .ok ts) (b : Nat) (hb : 1 ≤ b) (hlen : (glue b ts).length ≤ 1024) : ∃ ts', lex (glue b ts) = .ok ts' ∧ ts'.map Tok.bare = ts.map Tok.bare := by
  obtain ⟨_, hu, ts', ht, rfl⟩ := lex_ok h
  have e : ∀ (ts : List Tok) (t : Tok), t.letters = [] → glue b (ts ++ [t]) = glue b ts ++ List.replicate b 32 := by
    intro ts t h0
    induction ts with
    | nil => simp [glue, h0]
    | cons x r ih => simp [glue, ih]
  rw [e _ _ rfl] at hlen ⊢
  obtain ⟨g1, g2⟩ := glue_back b hb b _ l 0 ts' (Nat.le_refl _) hu ht
  obtain ⟨ts2, h1, h2⟩ := g2 0
  rw [lex_u8 hlen (g1.append (U8.low (by rw [List.all_replicate]; simp [low]))), h1]
  exact ⟨_, rfl, by rw [List.map_append, List.map_append, h2]; rfl⟩

/-- What is quoted is one text, that says the same. -/
theorem lex_quote {s : List UInt8} (hs : isText s = true) (hlen : (quote s).length ≤ 1024) : lex (quote s) = .ok [⟨4, s, 0, 1⟩, ⟨0, [], 0, (quote s).length + 1⟩] := by
  have h10 : s.contains 10 = false := by
    unfold isText at hs
    simp only [Bool.and_eq_true, Bool.not_eq_true'] at hs
    exact hs.1
  have hu : U8 s := by
    unfold isText at hs
    simp only [Bool.and_eq_true, decide_eq_true_eq] at hs
    exact (u8_iff s).1 hs.2
  have hq := quote_of hs
  have hu2 : U8 (quote s) := by
    rw [hq]
    exact U8.cons (by decide) ((esc_u8 hu).append (U8.low (by decide)))
  have ht : tok 34 (esc s ++ [34]) = some (4, s, 0, (esc s).length + 2) := by
    unfold tok
    rw [if_neg (by decide), if_neg (fun h => absurd h.1 (by decide)), if_pos rfl, text_quote [] s h10]
    rfl
  have e : toks 0 (quote s) = .ok [⟨4, s, 0, 1⟩] := by
    rw [hq, toks_some (by decide) ht, List.drop_eq_nil_of_le (by simp), toks_nil]
    rfl
  rw [lex_u8 hlen hu2, e]
  rfl

theorem toks_names : ∀ (n : Nat) (l : List UInt8) (i : Nat) (ts : List Tok), l.length ≤ n → toks i l = .ok ts → ∀ t ∈ ts, t.kind = 1 ∨ t.kind = 2 → name t.says = true ∧ (t.kind = 2 ↔ isWord t.says = true) := by
  intro n
  induction n with
  | zero =>
    intro l i ts h ht t htm _
    obtain rfl := List.length_eq_zero_iff.1 (Nat.le_zero.1 h)
    rw [toks_nil] at ht
    cases ht
    simp at htm
  | succ n ih =>
    intro l i ts h ht t htm hk12
    cases l with
    | nil => exact ih [] i ts (by simp) ht t htm hk12
    | cons c r =>
      simp only [List.length_cons] at h
      by_cases hc : c = 32
      · subst hc
        rw [toks_blank] at ht
        exact ih r _ ts (by omega) ht t htm hk12
      · cases hk : tok c r with
        | none => rw [toks_none hc hk] at ht; cases ht
        | some p =>
          obtain ⟨k, s, x, m⟩ := p
          have hm := tok_len hk
          rw [toks_some hc hk] at ht
          cases hr : toks (i + m) ((c :: r).drop m) with
          | error e => rw [hr] at ht; cases ht
          | ok ts2 =>
            rw [hr] at ht
            cases ht
            rcases List.mem_cons.1 htm with rfl | htm
            · unfold tok at hk
              simp only at hk12 ⊢
              split at hk
              · simp only [Option.some.injEq, Prod.mk.injEq] at hk
                omega
              split at hk
              · simp only [Option.some.injEq, Prod.mk.injEq] at hk
                omega
              split at hk
              · rw [Option.map_eq_some_iff] at hk
                obtain ⟨⟨s', m'⟩, _, he⟩ := hk
                simp only [Prod.mk.injEq] at he
                omega
              split at hk
              · rw [Option.map_eq_some_iff] at hk
                obtain ⟨⟨k', n'⟩, hko, he⟩ := hk
                simp only [Prod.mk.injEq] at he
                obtain ⟨rfl, rfl, _, _⟩ := he
                exact (kindOf_small hko).2 hk12
              · cases hk
            · exact ih _ _ ts2 (by simp only [List.length_drop, List.length_cons]; omega) hr t htm hk12

theorem toks_count : ∀ (n : Nat) (l : List UInt8) (i : Nat) (ts : List Tok), l.length ≤ n → toks i l = .ok ts → ts.length ≤ l.length := by
  intro n
  induction n with
  | zero =>
    intro l i ts h ht
    obtain rfl := List.length_eq_zero_iff.1 (Nat.le_zero.1 h)
    rw [toks_nil] at ht
    cases ht
    exact Nat.le_refl _
  | succ n ih =>
    intro l i ts h ht
    cases l with
    | nil => exact ih [] i ts (by simp) ht
    | cons c r =>
      simp only [List.length_cons] at h
      by_cases hc : c = 32
      · subst hc
        rw [toks_blank] at ht
        have := ih r _ ts (by omega) ht
        simp only [List.length_cons]
        omega
      · cases hk : tok c r with
        | none => rw [toks_none hc hk] at ht; cases ht
        | some p =>
          obtain ⟨k, s, x, m⟩ := p
          have hm := tok_len hk
          rw [toks_some hc hk] at ht
          cases hr : toks (i + m) ((c :: r).drop m) with
          | error e => rw [hr] at ht; cases ht
          | ok ts2 =>
            rw [hr] at ht
            cases ht
            have := ih _ _ ts2 (by simp only [List.length_drop, List.length_cons]; omega) hr
            simp only [List.length_drop, List.length_cons] at this ⊢
            omega

theorem lex_count {l : List UInt8} {ts : List Tok} (h : lex l = .ok ts) : ts.length ≤ 1025 := by
  obtain ⟨h1, _, ts', ht, rfl⟩ := lex_ok h
  have := toks_count _ l 0 ts' (Nat.le_refl _) ht
  rw [List.length_append, List.length_singleton]
  omega

theorem name_parts {s : List UInt8} (h : name s = true) : ∃ c r, s = c :: r ∧ s.length ≤ 20 ∧ s.all ch = true ∧ dig c = false := by
  unfold name at h
  cases s with
  | nil => simp at h
  | cons c r =>
    simp only [Bool.and_eq_true, decide_eq_true_eq, Bool.not_eq_true', List.headD_cons] at h
    exact ⟨c, r, rfl, h.1.1.2, h.2, h.1.2⟩

/-- One token that says all of it, and is a name or a word, just if it can be a label's name. -/
theorem lex_name {s : List UInt8} (h : name s = true) : lex s = .ok [⟨if isWord s = true then 2 else 1, s, 0, 1⟩, ⟨0, [], 0, s.length + 1⟩] := by
  obtain ⟨c, r, rfl, hlen, hall, _⟩ := name_parts h
  have hu : U8 (c :: r) := U8.low (List.all_eq_true.2 fun x hx => ch_low x (List.all_eq_true.1 hall x hx))
  have hall' := hall
  rw [List.all_cons, Bool.and_eq_true] at hall'
  have hne : ∀ d : UInt8, ch d = false → c ≠ d := fun d hd e => by rw [e, hd] at hall'; exact absurd hall'.1 (by decide)
  have ht : tok c r = some (if isWord (c :: r) = true then 2 else 1, c :: r, 0, r.length + 1) := by
    unfold tok
    rw [if_neg (by rintro (e | e | e) <;> exact hne _ (by decide) e), if_neg (fun e => hne _ (by decide) e.1), if_neg (hne _ (by decide)), if_pos (.inr hall'.1), run_self r hall'.2]
    unfold kindOf
    by_cases hw : isWord (c :: r) = true
    · rw [if_pos hw, if_pos hw]; rfl
    · rw [if_neg hw, if_neg hw, if_pos h]; rfl
  have e : toks 0 (c :: r) = .ok [⟨if isWord (c :: r) = true then 2 else 1, c :: r, 0, 1⟩] := by
    rw [toks_some (hne _ (by decide)) ht, List.drop_eq_nil_of_le (by simp), toks_nil]
    rfl
  rw [lex_u8 (by omega) hu, e]
  rfl

theorem name_lex {s : List UInt8} {ts : List Tok} (h : lex s = .ok ts) {t : Tok} (ht : t ∈ ts) (hs : t.says = s) (hk : t.kind = 1 ∨ t.kind = 2) : name s = true := by
  obtain ⟨_, _, ts', h1, rfl⟩ := lex_ok h
  rcases List.mem_append.1 ht with ht | ht
  · rw [← hs]
    exact (toks_names _ s 0 ts' (Nat.le_refl _) h1 t ht hk).1
  · rw [List.mem_singleton] at ht
    subst ht
    simp at hk

end Go.Proofs.YtjghomppmphkoaaGreatDoor.LX
