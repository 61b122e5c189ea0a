/-
  magpielaw05.LexBlanks: how long what is glued is. No program in it.
-/
import Derived.Test.YtpchlnikcdhklaaDoorToks
namespace Go.Proofs.YtpchlnikcdhklaaDoor.LX
open Go MW

theorem letters_says {t : Tok} {c : UInt8} {r : List UInt8} (h : t.letters = c :: r) : t.says.length ≤ t.letters.length := by
  unfold Tok.letters at h ⊢
  split
  · rename_i hk
    rw [if_pos hk] at h
    unfold quote at h ⊢
    split at h
    · rename_i hi
      rw [if_pos hi]
      have := (esc_len t.says).1
      simp only [List.length_cons, List.length_append, List.length_nil]
      omega
    · cases h
  · exact Nat.le_refl _

theorem toks_letters : ∀ (n : Nat) (l : List UInt8) (i : Nat) (ts : List Tok), l.length ≤ n → U8 l → toks i l = .ok ts → ∀ t ∈ ts, t.letters.length ≤ l.length ∧ t.says.length ≤ l.length := by
  intro n
  induction n with
  | zero =>
    intro l i ts h _ ht t hm
    obtain rfl := List.length_eq_zero_iff.1 (Nat.le_zero.1 h)
    rw [toks_nil] at ht
    cases ht
    simp at hm
  | succ n ih =>
    intro l i ts h hu ht t hmem
    cases l with
    | nil => exact ih [] i ts (by simp) hu ht t hmem
    | cons c r =>
      simp only [List.length_cons] at h
      by_cases hc : c = 32
      · subst hc
        rw [toks_blank] at ht
        have := ih r _ ts (by omega) (hu.tail (by decide)) ht t hmem
        simp only [List.length_cons]
        omega
      · cases hk : tok c r with
        | none => rw [toks_none hc hk] at ht; cases ht
        | some p =>
          obtain ⟨k, s, x, m⟩ := p
          have hm := tok_len hk
          rw [toks_some hc hk] at ht
          cases hr : toks (i + m) ((c :: r).drop m) with
          | error e => rw [hr] at ht; cases ht
          | ok ts2 =>
            rw [hr] at ht
            cases ht
            obtain ⟨r0, hl, htk, hu0, _⟩ := tok_back hk hu (i + 1)
            rcases List.mem_cons.1 hmem with rfl | hmem
            · have h1 : (Tok.letters ⟨k, s, x, i + 1⟩).length ≤ (c :: r).length := by
                rw [hl, ← htk, List.length_take]
                omega
              have h2 := letters_says hl
              exact ⟨h1, Nat.le_trans h2 h1⟩
            · have hu2 : U8 ((c :: r).drop m) := U8.strip (htk ▸ hu0) (by rw [List.take_append_drop]; exact hu)
              have := ih _ _ ts2 (by simp only [List.length_drop, List.length_cons]; omega) hu2 hr t hmem
              simp only [List.length_drop, List.length_cons] at this ⊢
              omega

theorem lex_letters {l : List UInt8} {ts : List Tok} (h : lex l = .ok ts) : ∀ t ∈ ts, t.letters.length ≤ 1024 ∧ t.says.length ≤ 1024 := by
  obtain ⟨h1, hu, ts', ht, rfl⟩ := lex_ok h
  intro t hm
  rcases List.mem_append.1 hm with hm | hm
  · have := toks_letters _ l 0 ts' (Nat.le_refl _) hu ht t hm
    omega
  · rw [List.mem_singleton] at hm
    subst hm
    exact ⟨Nat.zero_le _, Nat.zero_le _⟩

theorem glue_snoc (b : Nat) (t : Tok) : ∀ ts : List Tok, glue b (ts ++ [t]) = glue b ts ++ (t.letters ++ List.replicate b 32)
  | [] => by simp [glue]
  | x :: r => by simp only [List.cons_append, glue, glue_snoc b t r, List.append_assoc]

theorem glue_len (b : Nat) (hb : b ≤ 3) : ∀ ts : List Tok, (∀ t ∈ ts, t.letters.length ≤ 1024) → (glue b ts).length ≤ 1027 * ts.length
  | [], _ => by simp [glue]
  | x :: r, h => by
    have h1 := glue_len b hb r fun t ht => h t (by simp [ht])
    have h2 := h x (by simp)
    simp only [glue, List.length_append, List.length_replicate, List.length_cons]
    omega

theorem bare_at {ts ts' : List Tok} (h : ts'.map Tok.bare = ts.map Tok.bare) {i : Nat} (hi : i < ts.length) (hi' : i < ts'.length) : ts'[i].kind = ts[i].kind ∧ ts'[i].says = ts[i].says ∧ ts'[i].n = ts[i].n := by
  have h1 : (ts'.map Tok.bare)[i]'(by simpa using hi') = (ts.map Tok.bare)[i]'(by simpa using hi) := by simp only [h]
  rw [List.getElem_map, List.getElem_map] at h1
  unfold Tok.bare at h1
  simp only [Prod.mk.injEq] at h1
  exact h1

end Go.Proofs.YtpchlnikcdhklaaDoor.LX
