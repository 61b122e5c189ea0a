/-
  A QUERY'S TEXT THAT BREAKS OFF: no program in it.
-/
import Derived.Test.YtmodiemmcdocdaaGreatDoorPxB
namespace Go.Proofs.YtmodiemmcdocdaaGreatDoor.LX
open Go MW

theorem run_take (r : List UInt8) (n : Nat) (h : (run r).length ≤ n) : run (r.take n) = run r := by
  have e : r = run r ++ r.dropWhile ch := (List.takeWhile_append_dropWhile (p := ch) (l := r)).symm
  have e2 : r.take n = run r ++ (r.dropWhile ch).take (n - (run r).length) := by
    conv => lhs; rw [e]
    rw [List.take_append, List.take_of_length_le h]
  rw [e2]
  refine PX.run_more _ _ (run_all r) ?_
  cases hd : r.dropWhile ch with
  | nil => simp [run]
  | cons c q =>
    have hc : ch c = false := by
      have := List.head?_dropWhile_not ch r
      rw [hd] at this
      simpa using this
    cases n - (run r).length with
    | zero => simp [run]
    | succ m => rw [List.take_succ_cons]; exact PX.run_of c _ hc

theorem text_take (r s : List UInt8) (m n : Nat) (h : text r = some (s, m)) (hn : m ≤ n) : text (r.take n) = some (s, m) := by
  obtain ⟨g1, g2, g3, g4⟩ := text_back _ r s m (Nat.le_refl _) h
  obtain ⟨q, hq⟩ : ∃ q, q = (r.take n).drop m := ⟨_, rfl⟩
  have e : r.take n = esc s ++ 34 :: q := by
    have h1 : (r.take n).take m = r.take m := by rw [List.take_take]; congr 1; omega
    have h2 := List.take_append_drop m (r.take n)
    rw [h1, g4, ← hq] at h2
    rw [← h2]
    simp
  have hl : (esc s).length + 1 = m := by
    have := congrArg List.length g4
    simp only [List.length_take, List.length_append, List.length_cons, List.length_nil] at this
    omega
  rw [e, text_quote _ s g1, hl]

theorem tok_take {c : UInt8} {r : List UInt8} {k m : Nat} {s : List UInt8} {x : Int} (h : tok c r = some (k, s, x, m)) {n : Nat} (hn : m ≤ n + 1) : tok c (r.take n) = some (k, s, x, m) := by
  unfold tok at h ⊢
  split at h
  · rename_i h1
    rw [if_pos h1]
    exact h
  rename_i h1
  rw [if_neg h1]
  split at h
  · rename_i h2
    have hm : m = 2 := by
      simp only [Option.some.injEq, Prod.mk.injEq] at h
      omega
    have h3 : (r.take n).head? = some 61 := by
      cases r with
      | nil => simp at h2
      | cons d q =>
        obtain ⟨n, rfl⟩ : ∃ n', n = n' + 1 := ⟨n - 1, by omega⟩
        rw [List.take_succ_cons]
        exact h2.2
    rw [if_pos ⟨h2.1, h3⟩]
    exact h
  rename_i h2
  split at h
  · rename_i h3
    rw [if_neg (by rw [h3]; exact fun h => absurd h.1 (by decide)), if_pos h3]
    rw [Option.map_eq_some_iff] at h
    obtain ⟨⟨s', m'⟩, ht, he⟩ := h
    simp only [Prod.mk.injEq] at he
    rw [text_take r s' m' n ht (by omega)]
    simp [he]
  rename_i h3
  split at h
  · rename_i h4
    rw [if_neg (by rintro ⟨rfl, _⟩; rcases h4 with h4 | h4; cases h4; exact absurd h4 (by decide)), if_neg h3, if_pos h4]
    rw [Option.map_eq_some_iff] at h
    obtain ⟨⟨k', n'⟩, hk, he⟩ := h
    simp only [Prod.mk.injEq] at he
    rw [run_take r n (by omega), hk]
    simp [he]
  · cases h

/-- Tokens cut ahead of one. -/
theorem toks_cut : ∀ (n : Nat) (l : List UInt8) (i : Nat) (ts : List Tok), l.length ≤ n → U8 l → toks i l = .ok ts → ∀ a (ha : a < ts.length), ∃ p, ts[a].place = i + p + 1 ∧ p < l.length ∧ toks i (l.take p) = .ok (ts.take a) ∧ U8 (l.take p) := by
  intro n
  induction n with
  | zero =>
    intro l i ts h _ ht a ha
    obtain rfl := List.length_eq_zero_iff.1 (Nat.le_zero.1 h)
    rw [toks_nil] at ht
    cases ht
    simp at ha
  | succ n ih =>
    intro l i ts h hu ht a ha
    cases l with
    | nil => exact ih [] i ts (by simp) hu ht a ha
    | cons c r =>
      simp only [List.length_cons] at h
      by_cases hc : c = 32
      · subst hc
        rw [toks_blank] at ht
        obtain ⟨p, h1, h2, h3, h4⟩ := ih r _ ts (by omega) (hu.tail (by decide)) ht a ha
        refine ⟨p + 1, by omega, by simp only [List.length_cons]; omega, ?_, ?_⟩
        · rw [List.take_succ_cons, toks_blank, h3]
        · rw [List.take_succ_cons]
          exact U8.cons (by decide) h4
      · cases hk : tok c r with
        | none => rw [toks_none hc hk] at ht; cases ht
        | some q =>
          obtain ⟨k, s, x, m⟩ := q
          have hm := tok_len hk
          rw [toks_some hc hk] at ht
          cases hr : toks (i + m) ((c :: r).drop m) with
          | error e => rw [hr] at ht; cases ht
          | ok ts2 =>
            rw [hr] at ht
            cases ht
            obtain ⟨r0, _, htk, hu0, _⟩ := tok_back hk hu (i + 1)
            have hu2 : U8 ((c :: r).drop m) := U8.strip (htk ▸ hu0) (by rw [List.take_append_drop]; exact hu)
            cases a with
            | zero => exact ⟨0, rfl, by simp, by simp [toks_nil], by simp; exact .nil⟩
            | succ a =>
              obtain ⟨p, h1, h2, h3, h4⟩ := ih _ _ ts2 (by simp only [List.length_drop, List.length_cons]; omega) hu2 hr a (by simpa using ha)
              rw [List.length_drop, List.length_cons] at h2
              have e : (c :: r).take (m + p) = (c :: r).take m ++ ((c :: r).drop m).take p := by rw [List.take_add]
              refine ⟨m + p, by simp only [List.getElem_cons_succ]; omega, by simp only [List.length_cons]; omega, ?_, ?_⟩
              · obtain ⟨y, hy⟩ : ∃ y, m + p = y + 1 := ⟨m + p - 1, by omega⟩
                have e2 : (c :: r).take (m + p) = c :: r.take y := by rw [hy, List.take_succ_cons]
                have e3 : (c :: r.take y).drop m = ((c :: r).drop m).take p := by
                  rw [← e2, e, List.drop_append_of_le_length (by rw [List.length_take, List.length_cons]; omega), List.drop_eq_nil_of_le (by rw [List.length_take]; omega), List.nil_append]
                rw [e2, toks_some hc (tok_take hk (by omega)), e3, h3]
                rfl
              · rw [e, htk]
                exact hu0.append h4

/-- A sign says no word. -/
theorem toks_signs : ∀ (n : Nat) (l : List UInt8) (i : Nat) (ts : List Tok), l.length ≤ n → toks i l = .ok ts → ∀ t ∈ ts, t.kind = 5 → t.says.length ≤ 2 := by
  intro n
  induction n with
  | zero =>
    intro l i ts h ht t htm _
    obtain rfl := List.length_eq_zero_iff.1 (Nat.le_zero.1 h)
    rw [toks_nil] at ht
    cases ht
    simp at htm
  | succ n ih =>
    intro l i ts h ht t htm h5
    cases l with
    | nil => exact ih [] i ts (by simp) ht t htm h5
    | cons c r =>
      simp only [List.length_cons] at h
      by_cases hc : c = 32
      · subst hc
        rw [toks_blank] at ht
        exact ih r _ ts (by omega) ht t htm h5
      · cases hk : tok c r with
        | none => rw [toks_none hc hk] at ht; cases ht
        | some p =>
          obtain ⟨k, s, x, m⟩ := p
          have hm := tok_len hk
          rw [toks_some hc hk] at ht
          cases hr : toks (i + m) ((c :: r).drop m) with
          | error e => rw [hr] at ht; cases ht
          | ok ts2 =>
            rw [hr] at ht
            cases ht
            rcases List.mem_cons.1 htm with rfl | htm
            · simp only at h5 ⊢
              unfold tok at hk
              split at hk
              · simp only [Option.some.injEq, Prod.mk.injEq] at hk
                obtain ⟨_, rfl, _⟩ := hk
                simp
              split at hk
              · simp only [Option.some.injEq, Prod.mk.injEq] at hk
                obtain ⟨_, rfl, _⟩ := hk
                simp
              split at hk
              · rw [Option.map_eq_some_iff] at hk
                obtain ⟨⟨s', m'⟩, _, he⟩ := hk
                simp only [Prod.mk.injEq] at he
                omega
              split at hk
              · rw [Option.map_eq_some_iff] at hk
                obtain ⟨⟨k', n'⟩, hko, he⟩ := hk
                simp only [Prod.mk.injEq] at he
                have := (kindOf_small hko).1
                omega
              · cases hk
            · exact ih _ _ ts2 (by simp only [List.length_drop, List.length_cons]; omega) hr t htm h5

end Go.Proofs.YtmodiemmcdocdaaGreatDoor.LX

namespace Go.Proofs.YtmodiemmcdocdaaGreatDoor.PX
open Go LX

/-- Tokens that end ahead of one of others. -/
structure Cut (ts cs : List Tok) (a P : Nat) : Prop where
  lt : a < ts.length
  len : cs.length = a + 1
  same : ∀ i, i < a → tk cs i = tk ts i
  kind : (tk cs a).kind = 0
  place : (tk cs a).place = P

theorem lex_cut {l : List UInt8} {ts : List Tok} (h : lex l = .ok ts) {a : Nat} (ha : a < ts.length) : ∃ p cs, (tk ts a).place = p + 1 ∧ p ≤ l.length ∧ lex (l.take p) = .ok cs ∧ Cut ts cs a (p + 1) := by
  obtain ⟨hlen, hu, ts', ht, rfl⟩ := lex_ok h
  rw [List.length_append, List.length_singleton] at ha
  by_cases he : a = ts'.length
  · subst he
    refine ⟨l.length, ts' ++ [⟨0, [], 0, l.length + 1⟩], ?_, Nat.le_refl _, by rw [List.take_length]; exact h, ⟨by simp, by simp, fun _ _ => rfl, ?_, ?_⟩⟩ <;>
      rw [tk_get (by simp), List.getElem_append_right (Nat.le_refl _)] <;> simp
  · have ha' : a < ts'.length := by omega
    obtain ⟨p, h1, h2, h3, h4⟩ := toks_cut _ l 0 ts' (Nat.le_refl _) hu ht a ha'
    have hl : (l.take p).length = p := by rw [List.length_take]; omega
    refine ⟨p, ts'.take a ++ [⟨0, [], 0, p + 1⟩], ?_, by omega, ?_, ⟨by simp; omega, by simp; omega, fun i hi => ?_, ?_, ?_⟩⟩
    · rw [tk_get (by simp; omega), List.getElem_append_left ha', h1]
      omega
    · rw [lex_u8 (by omega) h4, h3, hl]
    · rw [tk_get (by simp; omega), tk_get (by simp; omega), List.getElem_append_left (by rw [List.length_take]; omega), List.getElem_append_left (by omega), List.getElem_take]
    · rw [tk_get (by simp; omega), List.getElem_append_right (by rw [List.length_take]; omega)]
      simp
    · rw [tk_get (by simp; omega), List.getElem_append_right (by rw [List.length_take]; omega)]
      simp

/-- What becomes of a piece where the tokens end: the same, or told at the end, or all that is over. -/
def Brk {α : Type} (a P : Nat) (x : α) (j : Nat) (r : PR α) : Prop := (j ≤ a ∧ r = .ok (x, j)) ∨ r = .error (5, P) ∨ ∃ y, r = .ok (y, a)
/-- A piece, and the same one of the cut tokens. -/
def Brks {α : Type} (a P : Nat) (one cut : Nat → PR α) : Prop := ∀ i, i ≤ a → ∀ x j, one i = .ok (x, j) → Brk a P x j (cut i)
/-- A piece goes on. -/
def Fwd {α : Type} (one : Nat → PR α) : Prop := ∀ i x j, one i = .ok (x, j) → i ≤ j

theorem fwd_want (ts : List Tok) (w : List UInt8) : Fwd (want ts w) := by
  intro i x j h
  unfold want at h
  split at h
  · cases h; omega
  · cases h
theorem fwd_token (ts : List Tok) (k : Nat) : Fwd (token ts k) := by
  intro i x j h
  unfold token at h
  split at h
  · cases h; omega
  · cases h
theorem fwd_rest {ts : List Tok} {w : List UInt8} {one : Nat → PR Ft} (h : Fwd one) : ∀ f, Fwd (rest ts w one f) := by
  intro f
  induction f with
  | zero => intro i x j h; rw [rest] at h; cases h; exact Nat.le_refl _
  | succ f ih =>
    intro i x j hr
    rw [rest] at hr
    split at hr
    · cases h1 : one (i + 1) with
      | error e => rw [h1] at hr; cases hr
      | ok p =>
        obtain ⟨y, k⟩ := p
        rw [h1] at hr
        dsimp only at hr
        cases h2 : rest ts w one f k with
        | error e => rw [h2] at hr; cases hr
        | ok p =>
          obtain ⟨z, m⟩ := p
          rw [h2] at hr
          cases hr
          have := h _ _ _ h1
          have := ih _ _ _ h2
          omega
    · cases hr; exact Nat.le_refl _
theorem fwd_row {ts : List Tok} {w : List UInt8} {op : Int} {one : Nat → PR Ft} (h : Fwd one) : Fwd (row ts w op one) := by
  intro i x j hr
  unfold row at hr
  cases h1 : one i with
  | error e => rw [h1] at hr; cases hr
  | ok p =>
    obtain ⟨y, k⟩ := p
    rw [h1] at hr
    dsimp only at hr
    cases h2 : rest ts w one ts.length k with
    | error e => rw [h2] at hr; cases hr
    | ok p =>
      obtain ⟨z, m⟩ := p
      rw [h2] at hr
      cases hr
      have := h _ _ _ h1
      have := fwd_rest h _ _ _ _ h2
      omega
theorem fwd_leaf (ts : List Tok) : Fwd (leaf ts) := by
  intro i x j h
  unfold leaf at h
  split at h
  · cases h; omega
  split at h
  · cases h; omega
  split at h
  · cases h1 : token ts 4 (i + 1) with
    | error e => rw [h1] at h; cases h
    | ok p =>
      obtain ⟨y, k⟩ := p
      rw [h1] at h
      cases h
      have := fwd_token ts 4 _ _ _ h1
      omega
  split at h
  · cases h1 : token ts 4 (i + 1) with
    | error e => rw [h1] at h; cases h
    | ok p =>
      obtain ⟨y, k⟩ := p
      rw [h1] at h
      cases h
      have := fwd_token ts 4 _ _ _ h1
      omega
  cases h1 : want ts wField i with
  | error e => rw [h1] at h; cases h
  | ok p =>
    obtain ⟨y, k⟩ := p
    rw [h1] at h
    dsimp only at h
    cases h2 : token ts 1 k with
    | error e => rw [h2] at h; cases h
    | ok p =>
      obtain ⟨y2, k2⟩ := p
      rw [h2] at h
      dsimp only at h
      cases h3 : want ts wEq k2 with
      | error e => rw [h3] at h; cases h
      | ok p =>
        obtain ⟨y3, k3⟩ := p
        rw [h3] at h
        dsimp only at h
        cases h4 : token ts 4 k3 with
        | error e => rw [h4] at h; cases h
        | ok p =>
          obtain ⟨y4, k4⟩ := p
          rw [h4] at h
          cases h
          have := fwd_want ts _ _ _ _ h1
          have := fwd_token ts _ _ _ _ h2
          have := fwd_want ts _ _ _ _ h3
          have := fwd_token ts _ _ _ _ h4
          omega
theorem fwd_atom (ts : List Tok) : ∀ d, Fwd (atom ts d) := by
  intro d
  induction d with
  | zero =>
    intro i x j h
    rw [atom] at h
    split at h
    · cases h
    split at h
    · cases h
    exact fwd_leaf ts _ _ _ h
  | succ d ih =>
    intro i x j h
    rw [atom] at h
    split at h
    · cases h1 : atom ts d (i + 1) with
      | error e => rw [h1] at h; cases h
      | ok p =>
        obtain ⟨y, k⟩ := p
        rw [h1] at h
        cases h
        have := ih _ _ _ h1
        omega
    split at h
    · cases h1 : orF ts (atom ts d) (i + 1) with
      | error e => rw [h1] at h; cases h
      | ok p =>
        obtain ⟨y, k⟩ := p
        rw [h1] at h
        dsimp only at h
        cases h2 : want ts wShut k with
        | error e => rw [h2] at h; cases h
        | ok p =>
          obtain ⟨y2, k2⟩ := p
          rw [h2] at h
          cases h
          have := fwd_row (fwd_row ih) _ _ _ h1
          have := fwd_want ts _ _ _ _ h2
          omega
    exact fwd_leaf ts _ _ _ h

variable {ts cs : List Tok} {a P : Nat}

theorem Cut.noT (h : Cut ts cs a P) (w : List UInt8) : isT (tk cs a) w = false := isT_end h.kind w
theorem Cut.noW (h : Cut ts cs a P) (w : List UInt8) : want cs w a = .error (5, P) := by
  unfold want
  rw [if_neg (by rw [h.noT]; decide), h.place]
theorem Cut.noK (h : Cut ts cs a P) {k : Nat} (hk : k ≠ 0) : token cs k a = .error (5, P) := by
  unfold token
  rw [if_neg (by rw [h.kind]; exact fun e => hk e.symm), h.place]
theorem Cut.noN (h : Cut ts cs a P) (lo hi : Int) : number cs lo hi a = .error (5, P) := by
  unfold number
  rw [h.noK (by decide)]
theorem Cut.noL (h : Cut ts cs a P) : leaf cs a = .error (5, P) := by
  unfold leaf
  rw [if_neg (by rw [h.noT]; decide), if_neg (by rw [h.noT]; decide), if_neg (by rw [h.noT]; decide), if_neg (by rw [h.noT]; decide), h.noW]
theorem Cut.noA (h : Cut ts cs a P) (d : Nat) : atom cs d a = .error (5, P) := by
  cases d <;> rw [atom, if_neg (by rw [h.noT]; decide), if_neg (by rw [h.noT]; decide), h.noL]

/-- One token: the same, or told at the end. -/
def Brk1 {α : Type} (a P : Nat) (x : α) (i j : Nat) (r : PR α) : Prop := (j = i + 1 ∧ j ≤ a ∧ r = .ok (x, j)) ∨ r = .error (5, P)
theorem Cut.want (h : Cut ts cs a P) {w : List UInt8} {i : Nat} (hi : i ≤ a) {x : Unit} {j : Nat} (hj : want ts w i = .ok (x, j)) : Brk1 a P x i j (want cs w i) := by
  by_cases he : i = a
  · subst he
    rw [h.noW]
    exact .inr rfl
  · have hs := h.same i (by omega)
    unfold PX.want at hj ⊢
    rw [hs]
    split at hj
    · rename_i hy
      cases hj
      exact .inl ⟨rfl, by omega, by rw [if_pos hy]⟩
    · cases hj
theorem Cut.token (h : Cut ts cs a P) {k : Nat} (hk : k ≠ 0) {i : Nat} (hi : i ≤ a) {x : Tok} {j : Nat} (hj : token ts k i = .ok (x, j)) : Brk1 a P x i j (token cs k i) := by
  by_cases he : i = a
  · subst he
    rw [h.noK hk]
    exact .inr rfl
  · have hs := h.same i (by omega)
    unfold PX.token at hj ⊢
    rw [hs]
    split at hj
    · rename_i hy
      cases hj
      exact .inl ⟨rfl, by omega, by rw [if_pos hy]⟩
    · cases hj
theorem Cut.number (h : Cut ts cs a P) {lo hi : Int} {i : Nat} (hi' : i ≤ a) {x : Int} {j : Nat} (hj : number ts lo hi i = .ok (x, j)) : Brk1 a P x i j (number cs lo hi i) := by
  unfold PX.number at hj ⊢
  cases ht : PX.token ts 3 i with
  | error e => rw [ht] at hj; cases hj
  | ok p =>
    obtain ⟨t, k⟩ := p
    rw [ht] at hj
    dsimp only at hj
    split at hj
    · cases hj
    · rename_i hn
      cases hj
      rcases h.token (k := 3) (by decide) hi' ht with ⟨h1, h2, h3⟩ | h3
      · rw [h3]
        dsimp only
        rw [if_neg hn]
        exact .inl ⟨h1, h2, rfl⟩
      · rw [h3]; exact .inr rfl

theorem rest_stop (h : Cut ts cs a P) (w : List UInt8) (one : Nat → PR Ft) (f : Nat) : rest cs w one f a = .ok ([], a) := rest_none (h.noT w)

theorem rest_cut (h : Cut ts cs a P) {w : List UInt8} {one cut : Nat → PR Ft} (hb : Brks a P one cut) (hg : Fwd one) : ∀ (f g i : Nat), i ≤ a → ts.length ≤ f + i → a + 1 ≤ g + i → ∀ l k, rest ts w one f i = .ok (l, k) → Brk a P l k (rest cs w cut g i) := by
  intro f
  induction f with
  | zero =>
    intro g i hi hf hg l k _
    have := h.lt
    omega
  | succ f ih =>
    intro g i hi hf hgi l k hr
    obtain ⟨g, rfl⟩ : ∃ g', g = g' + 1 := ⟨g - 1, by omega⟩
    by_cases he : i = a
    · subst he
      rw [rest_stop h]
      exact .inr (.inr ⟨_, rfl⟩)
    rw [rest] at hr
    rw [rest, h.same i (by omega)]
    split at hr
    · rename_i hw
      rw [if_pos hw]
      cases h1 : one (i + 1) with
      | error e => rw [h1] at hr; cases hr
      | ok p =>
        obtain ⟨x, j⟩ := p
        rw [h1] at hr
        dsimp only at hr
        have hij := hg _ _ _ h1
        cases h3 : rest ts w one f j with
        | error e => rw [h3] at hr; cases hr
        | ok p =>
          obtain ⟨l', k'⟩ := p
          rw [h3] at hr
          dsimp only at hr
          cases hr
          rcases hb (i + 1) (by omega) x j h1 with ⟨h4, h5⟩ | h5 | ⟨y, h5⟩
          · rw [h5]
            dsimp only
            rcases ih g j h4 (by omega) (by omega) l' k h3 with ⟨h6, h7⟩ | h7 | ⟨y, h7⟩
            · rw [h7]; exact .inl ⟨h6, rfl⟩
            · rw [h7]; exact .inr (.inl rfl)
            · rw [h7]; exact .inr (.inr ⟨_, rfl⟩)
          · rw [h5]; exact .inr (.inl rfl)
          · rw [h5]
            dsimp only
            rw [rest_stop h]
            exact .inr (.inr ⟨_, rfl⟩)
    · rename_i hw
      rw [if_neg hw]
      cases hr
      exact .inl ⟨by omega, rfl⟩

theorem row_cut (h : Cut ts cs a P) {w : List UInt8} {op : Int} {one cut : Nat → PR Ft} (hb : Brks a P one cut) (hg : Fwd one) : Brks a P (row ts w op one) (row cs w op cut) := by
  intro i hi x j hr
  unfold row at hr ⊢
  cases h1 : one i with
  | error e => rw [h1] at hr; cases hr
  | ok p =>
    obtain ⟨y, k⟩ := p
    rw [h1] at hr
    dsimp only at hr
    cases h3 : rest ts w one ts.length k with
    | error e => rw [h3] at hr; cases hr
    | ok p =>
      obtain ⟨l, m⟩ := p
      rw [h3] at hr
      cases hr
      rcases hb i hi y k h1 with ⟨h4, h5⟩ | h5 | ⟨z, h5⟩
      · rw [h5]
        dsimp only
        rcases rest_cut h hb hg ts.length cs.length k h4 (by omega) (by rw [h.len]; omega) l j h3 with ⟨h6, h7⟩ | h7 | ⟨z, h7⟩
        · rw [h7]; exact .inl ⟨h6, rfl⟩
        · rw [h7]; exact .inr (.inl rfl)
        · rw [h7]; exact .inr (.inr ⟨_, rfl⟩)
      · rw [h5]; exact .inr (.inl rfl)
      · rw [h5]
        dsimp only
        rw [rest_stop h]
        exact .inr (.inr ⟨_, rfl⟩)

theorem leaf_cut (h : Cut ts cs a P) : Brks a P (leaf ts) (leaf cs) := by
  intro i hi x j hl
  by_cases he : i = a
  · subst he
    rw [h.noL]
    exact .inr (.inl rfl)
  unfold leaf at hl ⊢
  rw [h.same i (by omega)]
  split at hl
  · rename_i hy
    cases hl
    rw [if_pos hy]
    exact .inl ⟨by omega, rfl⟩
  rename_i n1
  rw [if_neg n1]
  split at hl
  · rename_i hy
    cases hl
    rw [if_pos hy]
    exact .inl ⟨by omega, rfl⟩
  rename_i n2
  rw [if_neg n2]
  split at hl
  · rename_i hy
    rw [if_pos hy]
    cases h1 : PX.token ts 4 (i + 1) with
    | error e => rw [h1] at hl; cases hl
    | ok p =>
      obtain ⟨y, k⟩ := p
      rw [h1] at hl
      cases hl
      rcases h.token (by decide) (by omega) h1 with ⟨_, h2, h3⟩ | h3
      · rw [h3]; exact .inl ⟨h2, rfl⟩
      · rw [h3]; exact .inr (.inl rfl)
  rename_i n3
  rw [if_neg n3]
  split at hl
  · rename_i hy
    rw [if_pos hy]
    cases h1 : PX.token ts 4 (i + 1) with
    | error e => rw [h1] at hl; cases hl
    | ok p =>
      obtain ⟨y, k⟩ := p
      rw [h1] at hl
      cases hl
      rcases h.token (by decide) (by omega) h1 with ⟨_, h2, h3⟩ | h3
      · rw [h3]; exact .inl ⟨h2, rfl⟩
      · rw [h3]; exact .inr (.inl rfl)
  rename_i n4
  rw [if_neg n4]
  cases h1 : PX.want ts wField i with
  | error e => rw [h1] at hl; cases hl
  | ok p =>
    obtain ⟨y1, k1⟩ := p
    rw [h1] at hl
    dsimp only at hl
    cases h2 : PX.token ts 1 k1 with
    | error e => rw [h2] at hl; cases hl
    | ok p =>
      obtain ⟨y2, k2⟩ := p
      rw [h2] at hl
      dsimp only at hl
      cases h3 : PX.want ts wEq k2 with
      | error e => rw [h3] at hl; cases hl
      | ok p =>
        obtain ⟨y3, k3⟩ := p
        rw [h3] at hl
        dsimp only at hl
        cases h4 : PX.token ts 4 k3 with
        | error e => rw [h4] at hl; cases hl
        | ok p =>
          obtain ⟨y4, k4⟩ := p
          rw [h4] at hl
          cases hl
          rcases h.want hi h1 with ⟨_, g1, e1⟩ | e1
          · rw [e1]
            dsimp only
            rcases h.token (by decide) g1 h2 with ⟨_, g2, e2⟩ | e2
            · rw [e2]
              dsimp only
              rcases h.want g2 h3 with ⟨_, g3, e3⟩ | e3
              · rw [e3]
                dsimp only
                rcases h.token (by decide) g3 h4 with ⟨_, g4, e4⟩ | e4
                · rw [e4]; exact .inl ⟨g4, rfl⟩
                · rw [e4]; exact .inr (.inl rfl)
              · rw [e3]; exact .inr (.inl rfl)
            · rw [e2]; exact .inr (.inl rfl)
          · rw [e1]; exact .inr (.inl rfl)

theorem atom_cut (h : Cut ts cs a P) : ∀ d, Brks a P (atom ts d) (atom cs d) := by
  intro d
  induction d with
  | zero =>
    intro i hi x j hr
    by_cases he : i = a
    · subst he
      rw [h.noA]
      exact .inr (.inl rfl)
    rw [atom] at hr ⊢
    rw [h.same i (by omega)]
    split at hr
    · cases hr
    rename_i n1
    rw [if_neg n1]
    split at hr
    · cases hr
    rename_i n2
    rw [if_neg n2]
    exact leaf_cut h i hi x j hr
  | succ d ih =>
    intro i hi x j hr
    by_cases he : i = a
    · subst he
      rw [h.noA]
      exact .inr (.inl rfl)
    rw [atom] at hr ⊢
    rw [h.same i (by omega)]
    split at hr
    · rename_i hy
      rw [if_pos hy]
      cases h1 : atom ts d (i + 1) with
      | error e => rw [h1] at hr; cases hr
      | ok p =>
        obtain ⟨y, k⟩ := p
        rw [h1] at hr
        cases hr
        rcases ih (i + 1) (by omega) y j h1 with ⟨h4, h5⟩ | h5 | ⟨z, h5⟩
        · rw [h5]; exact .inl ⟨h4, rfl⟩
        · rw [h5]; exact .inr (.inl rfl)
        · rw [h5]; exact .inr (.inr ⟨_, rfl⟩)
    rename_i n1
    rw [if_neg n1]
    split at hr
    · rename_i hy
      rw [if_pos hy]
      cases h1 : orF ts (atom ts d) (i + 1) with
      | error e => rw [h1] at hr; cases hr
      | ok p =>
        obtain ⟨y, k⟩ := p
        rw [h1] at hr
        dsimp only at hr
        cases h2 : PX.want ts wShut k with
        | error e => rw [h2] at hr; cases hr
        | ok p =>
          obtain ⟨y2, k2⟩ := p
          rw [h2] at hr
          cases hr
          rcases row_cut h (w := wOr) (op := 8) (row_cut h (w := wAnd) (op := 7) ih (fwd_atom ts d)) (fwd_row (fwd_atom ts d)) (i + 1) (by omega) x k h1 with ⟨h4, h5⟩ | h5 | ⟨z, h5⟩
          · rw [show orF cs (atom cs d) (i + 1) = _ from h5]
            dsimp only
            rcases h.want h4 h2 with ⟨_, g3, e3⟩ | e3
            · rw [e3]; exact .inl ⟨g3, rfl⟩
            · rw [e3]; exact .inr (.inl rfl)
          · rw [show orF cs (atom cs d) (i + 1) = _ from h5]
            exact .inr (.inl rfl)
          · rw [show orF cs (atom cs d) (i + 1) = _ from h5]
            dsimp only
            rw [h.noW]
            exact .inr (.inl rfl)
    rename_i n2
    rw [if_neg n2]
    exact leaf_cut h i hi x j hr

/-- A matcher's sign; a matcher, and what is behind it. -/
def wsign (ts : List Tok) (j : Nat) : PR Bool := if isT (tk ts j) wNe = true then .ok (true, j + 1) else match PX.want ts wEq j with
  | .error e => .error e
  | .ok (_, k) => .ok (false, k)
def whereQ (ts : List Tok) (more : Nat → PR (List Mt)) (i : Nat) : PR (List Mt) :=
  match PX.token ts 1 (i + 1) with
  | .error e => .error e
  | .ok (x, j) => match wsign ts j with
    | .error e => .error e
    | .ok (b, k) => match PX.token ts 4 k with
      | .error e => .error e
      | .ok (t, q) => match more q with
        | .error e => .error e
        | .ok (l, r) => .ok (⟨bs x.says, b, bs t.says⟩ :: l, r)
theorem wheres_eq (ts : List Tok) (f n i : Nat) : wheres ts (f + 1) n i = if isT (tk ts i) wWhere = true then if 4 ≤ n then .error (6, (tk ts i).place) else whereQ ts (wheres ts f (n + 1)) i else .ok ([], i) := rfl

theorem wheres_stop (h : Cut ts cs a P) (f n : Nat) : wheres cs f n a = .ok ([], a) := by
  cases f
  · rfl
  · rw [wheres, if_neg (by rw [h.noT]; decide)]

theorem wsign_cut (h : Cut ts cs a P) {j : Nat} (hj : j ≤ a) {b : Bool} {k : Nat} (hb : wsign ts j = .ok (b, k)) : (wsign cs j = .ok (b, k) ∧ k ≤ a ∧ j + 1 ≤ k) ∨ wsign cs j = .error (5, P) := by
  unfold wsign at hb ⊢
  by_cases hk : j = a
  · subst hk
    rw [if_neg (by rw [h.noT]; decide), h.noW]
    exact .inr rfl
  rw [h.same j (by omega)]
  split at hb
  · rename_i hn
    rw [if_pos hn]
    cases hb
    exact .inl ⟨rfl, by omega, by omega⟩
  · rename_i hn
    rw [if_neg hn]
    cases h2 : PX.want ts wEq j with
    | error e => rw [h2] at hb; cases hb
    | ok p =>
      obtain ⟨y2, k2'⟩ := p
      rw [h2] at hb
      cases hb
      rcases h.want (by omega) h2 with ⟨u1, u2, u3⟩ | u3
      · rw [u3]
        exact .inl ⟨rfl, u2, by omega⟩
      · rw [u3]
        exact .inr rfl

theorem wheres_cut (h : Cut ts cs a P) : ∀ (f g n i : Nat), i ≤ a → ts.length ≤ f + i → a + 1 ≤ g + i → ∀ l k, wheres ts f n i = .ok (l, k) → Brk a P l k (wheres cs g n i) := by
  intro f
  induction f with
  | zero =>
    intro g n i hi hf hg l k _
    have := h.lt
    omega
  | succ f ih =>
    intro g n i hi hf hgi l k hr
    obtain ⟨g, rfl⟩ : ∃ g', g = g' + 1 := ⟨g - 1, by omega⟩
    by_cases he : i = a
    · subst he
      rw [wheres_stop h]
      exact .inr (.inr ⟨_, rfl⟩)
    rw [wheres_eq] at hr
    rw [wheres_eq, h.same i (by omega)]
    split at hr
    · rename_i hw
      rw [if_pos hw]
      split at hr
      · cases hr
      rename_i h4
      rw [if_neg h4]
      unfold whereQ at hr ⊢
      cases h1 : PX.token ts 1 (i + 1) with
      | error e => rw [h1] at hr; cases hr
      | ok p =>
      obtain ⟨y1, k1⟩ := p
      rw [h1] at hr
      dsimp only at hr
      cases hb : wsign ts k1 with
      | error e => rw [hb] at hr; cases hr
      | ok p =>
      obtain ⟨b, k2⟩ := p
      rw [hb] at hr
      dsimp only at hr
      cases h3 : PX.token ts 4 k2 with
      | error e => rw [h3] at hr; cases hr
      | ok p =>
      obtain ⟨y3, k3⟩ := p
      rw [h3] at hr
      dsimp only at hr
      cases h5 : wheres ts f (n + 1) k3 with
      | error e => rw [h5] at hr; cases hr
      | ok p =>
      obtain ⟨y4, k4⟩ := p
      rw [h5] at hr
      cases hr
      rcases h.token (by decide) (by omega) h1 with ⟨_, g1, e1⟩ | e1
      rotate_left
      · rw [e1]; exact .inr (.inl rfl)
      rw [e1]
      dsimp only
      rcases wsign_cut h g1 hb with ⟨e2, g2, g2'⟩ | e2
      rotate_left
      · rw [e2]; exact .inr (.inl rfl)
      rw [e2]
      dsimp only
      rcases h.token (by decide) g2 h3 with ⟨g3', g3, e3⟩ | e3
      rotate_left
      · rw [e3]; exact .inr (.inl rfl)
      rw [e3]
      dsimp only
      rcases ih g (n + 1) k3 g3 (by omega) (by omega) y4 k h5 with ⟨h6, h7⟩ | h7 | ⟨y, h7⟩
      · rw [h7]; exact .inl ⟨h6, rfl⟩
      · rw [h7]; exact .inr (.inl rfl)
      · rw [h7]; exact .inr (.inr ⟨_, rfl⟩)
    · rename_i hw
      rw [if_neg hw]
      cases hr
      exact .inl ⟨by omega, rfl⟩

/-- A query's tokens, from the limit on; from desc on; from find on. -/
def tailQ (ts : List Tok) (f t : Int) (ms : List Mt) (x : Ft) (d : Bool) (i7 : Nat) : Except (Nat × Nat) Qy :=
  match want ts wLimit i7 with
  | .error e => .error e
  | .ok (_, i8) => match number ts 1 50 i8 with
  | .error e => .error e
  | .ok (n, i9) =>
  match (if isT (tk ts i9) wPage = true then (match token ts 4 (i9 + 1) with
    | .error e => (.error e : PR ByteArray)
    | .ok (p, j) => .ok (bs p.says, j)) else .ok (⟨#[]⟩, i9)) with
  | .error e => .error e
  | .ok (p, i10) => if (tk ts i10).kind = 0 then .ok ⟨f, t, ms, x, d, n, p⟩ else .error (5, (tk ts i10).place)
def desQ (ts : List Tok) (f t : Int) (ms : List Mt) (x : Ft) (i6 : Nat) : Except (Nat × Nat) Qy :=
  match (if isT (tk ts i6) wDesc = true then (true, i6 + 1) else (false, i6)) with
  | (d, i7) => tailQ ts f t ms x d i7
def fndQ (ts : List Tok) (f t : Int) (ms : List Mt) (i5 : Nat) : Except (Nat × Nat) Qy :=
  match (if isT (tk ts i5) wFind = true then orF ts (atom ts 8) (i5 + 1) else .ok (.mk 1 ⟨#[]⟩ ⟨#[]⟩ [], i5)) with
  | .error e => .error e
  | .ok (x, i6) => desQ ts f t ms x i6

/-- A query's tokens that end at its limit's number, or ahead of it. -/
theorem query_cut (h : Cut ts cs a P) {q : Qy} (hq : query ts = .ok q) (hl : ∀ i, i < a → isT (tk ts i) wLimit = true → ¬ (i + 1 < a)) : query cs = .error (5, P) := by
  unfold query at hq ⊢
  cases h1 : PX.want ts wFrom 0 with
  | error e => rw [h1] at hq; cases hq
  | ok p =>
  obtain ⟨y1, i1⟩ := p
  rw [h1] at hq
  dsimp only at hq
  cases h2 : PX.number ts (-1099511627776) 1099511627776 i1 with
  | error e => rw [h2] at hq; cases hq
  | ok p =>
  obtain ⟨f, i2⟩ := p
  rw [h2] at hq
  dsimp only at hq
  cases h3 : PX.want ts wTo i2 with
  | error e => rw [h3] at hq; cases hq
  | ok p =>
  obtain ⟨y3, i3⟩ := p
  rw [h3] at hq
  dsimp only at hq
  cases h4 : PX.number ts (-1099511627776) 1099511627776 i3 with
  | error e => rw [h4] at hq; cases hq
  | ok p =>
  obtain ⟨t, i4⟩ := p
  rw [h4] at hq
  dsimp only at hq
  split at hq
  · cases hq
  rename_i htf
  cases h5 : wheres ts ts.length 0 i4 with
  | error e => rw [h5] at hq; cases hq
  | ok p =>
  obtain ⟨ms, i5⟩ := p
  rw [h5] at hq
  dsimp only at hq
  cases h6 : (if isT (tk ts i5) wFind = true then orF ts (atom ts 8) (i5 + 1) else .ok (.mk 1 ⟨#[]⟩ ⟨#[]⟩ [], i5)) with
  | error e => rw [h6] at hq; cases hq
  | ok p =>
  obtain ⟨x, i6⟩ := p
  rw [h6] at hq
  dsimp only at hq
  obtain ⟨d, i7, h7⟩ : ∃ d i7, (if isT (tk ts i6) wDesc = true then (true, i6 + 1) else (false, i6)) = (d, i7) := ⟨_, _, rfl⟩
  rw [h7] at hq
  dsimp only at hq
  cases h8 : PX.want ts wLimit i7 with
  | error e => rw [h8] at hq; cases hq
  | ok p =>
  obtain ⟨y8, i8⟩ := p
  rw [h8] at hq
  dsimp only at hq
  clear hq
  rcases h.want (Nat.zero_le _) h1 with ⟨_, g1, e1⟩ | e1
  rotate_left
  · rw [e1]
  rw [e1]
  dsimp only
  rcases h.number g1 h2 with ⟨_, g2, e2⟩ | e2
  rotate_left
  · rw [e2]
  rw [e2]
  dsimp only
  rcases h.want g2 h3 with ⟨_, g3, e3⟩ | e3
  rotate_left
  · rw [e3]
  rw [e3]
  dsimp only
  rcases h.number g3 h4 with ⟨_, g4, e4⟩ | e4
  rotate_left
  · rw [e4]
  rw [e4]
  dsimp only
  rw [if_neg htf]
  -- what stands behind: told at the end, wherever the limit is asked for
  have fin : ∀ (f' t' : Int) (ms' : List Mt) (x' : Ft) (d' : Bool) (j : Nat), j = a → tailQ cs f' t' ms' x' d' j = .error (5, P) := by
    rintro f' t' ms' x' d' j rfl
    unfold tailQ
    rw [h.noW]
  have des : ∀ (f' t' : Int) (ms' : List Mt) (x' : Ft) (j : Nat), j = a → desQ cs f' t' ms' x' j = .error (5, P) := by
    rintro f' t' ms' x' j rfl
    unfold desQ
    rw [if_neg (by rw [h.noT]; decide)]
    exact fin _ _ _ _ _ _ rfl
  have fnd : ∀ (f' t' : Int) (ms' : List Mt) (j : Nat), j = a → fndQ cs f' t' ms' j = .error (5, P) := by
    rintro f' t' ms' j rfl
    unfold fndQ
    rw [if_neg (by rw [h.noT]; decide)]
    exact des _ _ _ _ _ rfl
  show (match wheres cs cs.length 0 i4 with
    | .error e => (.error e : Except (Nat × Nat) Qy)
    | .ok (ms, i5) => fndQ cs f t ms i5) = _
  rcases wheres_cut h ts.length cs.length 0 i4 g4 (by omega) (by rw [h.len]; omega) ms i5 h5 with ⟨g5, e5⟩ | e5 | ⟨y, e5⟩
  rotate_left
  · rw [e5]
  · rw [e5]
    exact fnd _ _ _ _ rfl
  rw [e5]
  show fndQ cs f t ms i5 = _
  by_cases k5 : i5 = a
  · exact fnd _ _ _ _ k5
  have s5 := h.same i5 (by omega)
  unfold fndQ
  rw [s5]
  have e6 : Brk a P x i6 (if isT (tk ts i5) wFind = true then orF cs (atom cs 8) (i5 + 1) else .ok (.mk 1 ⟨#[]⟩ ⟨#[]⟩ [], i5)) := by
    split at h6
    · rename_i hy
      rw [if_pos hy]
      exact row_cut h (w := wOr) (op := 8) (row_cut h (w := wAnd) (op := 7) (atom_cut h 8) (fwd_atom ts 8)) (fwd_row (fwd_atom ts 8)) (i5 + 1) (by omega) x i6 h6
    · rename_i hy
      rw [if_neg hy]
      cases h6
      exact .inl ⟨by omega, rfl⟩
  rcases e6 with ⟨g6, e6⟩ | e6 | ⟨y, e6⟩
  rotate_left
  · rw [e6]
  · rw [e6]
    exact des _ _ _ _ _ rfl
  rw [e6]
  show desQ cs f t ms x i6 = _
  by_cases k6 : i6 = a
  · exact des _ _ _ _ _ k6
  unfold desQ
  rw [h.same i6 (by omega), h7]
  show tailQ cs f t ms x d i7 = _
  have g7 : i7 ≤ a := by
    split at h7 <;> cases h7 <;> omega
  by_cases k7 : i7 = a
  · exact fin _ _ _ _ _ _ k7
  have hw : isT (tk ts i7) wLimit = true := by
    unfold PX.want at h8
    split at h8
    · assumption
    · cases h8
  have := hl i7 (by omega) hw
  rcases h.want g7 h8 with ⟨u8, g8, e8⟩ | e8
  · unfold tailQ
    rw [e8]
    dsimp only
    rw [show i8 = a by omega, h.noN]
  · unfold tailQ
    rw [e8]

/-- What a text that breaks off ahead of its limit's number is: none, told at its end. -/
theorem parse_cut {l : List UInt8} {q : Qy} (hq : parse l = .ok q) {ts : List Tok} (hl : LX.lex l = .ok ts) {a : Nat} (ha : a < ts.length) (hn : ∀ i, i < a → (tk ts i).kind = 2 → (tk ts i).says = wLimit → ¬ (i + 1 < a)) :
    ∃ p, (tk ts a).place = p + 1 ∧ p ≤ l.length ∧ parse (l.take p) = .error (5, p + 1) := by
  obtain ⟨p, cs, h1, h2, h3, hc⟩ := lex_cut hl ha
  refine ⟨p, h1, h2, ?_⟩
  unfold parse at hq ⊢
  rw [hl] at hq
  rw [h3]
  refine query_cut hc hq fun i hi ht => ?_
  unfold isT at ht
  simp only [Bool.and_eq_true, Bool.or_eq_true, decide_eq_true_eq] at ht
  refine hn i hi ?_ ht.2
  rcases ht.1 with h | h
  · exact h
  · obtain ⟨_, _, ts', htk, rfl⟩ := lex_ok hl
    have hi' : i < (ts' ++ [(⟨0, [], 0, l.length + 1⟩ : Tok)]).length := by omega
    rw [tk_get hi'] at h ht
    have hm : (ts' ++ [(⟨0, [], 0, l.length + 1⟩ : Tok)])[i] ∈ ts' := by
      rcases List.mem_append.1 (List.getElem_mem hi') with hm | hm
      · exact hm
      · rw [List.mem_singleton] at hm
        rw [hm] at h
        cases h
    have h9 := toks_signs _ l 0 ts' (Nat.le_refl _) htk _ hm h
    rw [ht.2] at h9
    exact absurd h9 (by decide)
end Go.Proofs.YtmodiemmcdocdaaGreatDoor.PX
