/-
  WHAT A TEXT IS PARSED TO CAN BE TOLD AGAIN, in not too many letters. No program in it.
-/
import Derived.Test.YtmodiemmcdocdaaDoorCn7
namespace Go.Proofs.YtmodiemmcdocdaaDoor.LX
open Go MW

theorem said_le {t : Tok} {c : UInt8} {r : List UInt8} (h : t.letters = c :: r) : t.says.length ≤ t.letters.length ∧ (t.kind = 4 → isText t.says = true) := by
  unfold Tok.letters at h ⊢
  split
  · rename_i hk
    rw [if_pos hk] at h
    unfold quote at h ⊢
    split at h
    · rename_i hi
      rw [if_pos hi]
      have := (esc_len t.says).1
      refine ⟨?_, fun _ => hi⟩
      simp only [List.length_cons, List.length_append, List.length_nil]
      omega
    · cases h
  · rename_i hk
    exact ⟨Nat.le_refl _, fun h => absurd h hk⟩

/-- How many bytes tokens say. -/
def sLen : List Tok → Nat
  | [] => 0
  | t :: r => t.says.length + sLen r

theorem toks_said : ∀ (n : Nat) (l : List UInt8) (i : Nat) (ts : List Tok), l.length ≤ n → U8 l → toks i l = .ok ts → sLen ts ≤ l.length ∧ ∀ t ∈ ts, (t.kind = 4 → isText t.says = true) := by
  intro n
  induction n with
  | zero =>
    intro l i ts h _ ht
    obtain rfl := List.length_eq_zero_iff.1 (Nat.le_zero.1 h)
    rw [toks_nil] at ht
    cases ht
    exact ⟨Nat.zero_le _, fun t hm => by simp at hm⟩
  | succ n ih =>
    intro l i ts h hu ht
    cases l with
    | nil => exact ih [] i ts (by simp) hu ht
    | cons c r =>
      simp only [List.length_cons] at h
      by_cases hc : c = 32
      · subst hc
        rw [toks_blank] at ht
        have := ih r _ ts (by omega) (hu.tail (by decide)) ht
        simp only [List.length_cons]
        exact ⟨by omega, this.2⟩
      · cases hk : tok c r with
        | none => rw [toks_none hc hk] at ht; cases ht
        | some p =>
          obtain ⟨k, s, x, m⟩ := p
          have hm := tok_len hk
          rw [toks_some hc hk] at ht
          cases hr : toks (i + m) ((c :: r).drop m) with
          | error e => rw [hr] at ht; cases ht
          | ok ts2 =>
            rw [hr] at ht
            cases ht
            obtain ⟨r0, hl, htk, hu0, _⟩ := tok_back hk hu (i + 1)
            have hu2 : U8 ((c :: r).drop m) := U8.strip (htk ▸ hu0) (by rw [List.take_append_drop]; exact hu)
            have h1 := said_le hl
            have h2 : (Tok.letters ⟨k, s, x, i + 1⟩).length ≤ m := by
              rw [hl, ← htk, List.length_take]
              exact Nat.min_le_left _ _
            obtain ⟨h3, h4⟩ := ih _ _ ts2 (by simp only [List.length_drop, List.length_cons]; omega) hu2 hr
            simp only [List.length_drop, List.length_cons] at h3
            have h5 := h1.1
            refine ⟨?_, fun t hm' => ?_⟩
            · rw [sLen, List.length_cons]
              omega
            · rcases List.mem_cons.1 hm' with rfl | hm'
              · exact h1.2
              · exact h4 t hm'

/-- Tokens of a text: what they say can be said; how many bytes. -/
structure LTold (ts : List Tok) : Prop where
  txt : ∀ t ∈ ts, t.kind = 4 → isText t.says = true
  nam : ∀ t ∈ ts, t.kind = 1 → name t.says = true ∧ isWord t.says = false
  len : sLen ts ≤ 1024
  few : ts.length ≤ 1025
theorem sLen_snoc (t : Tok) : ∀ ts : List Tok, sLen (ts ++ [t]) = sLen ts + t.says.length
  | [] => by simp [sLen]
  | x :: r => by rw [List.cons_append, sLen, sLen_snoc t r, sLen]; omega
theorem lex_told {l : List UInt8} {ts : List Tok} (h : lex l = .ok ts) : LTold ts := by
  have hf := lex_count h
  obtain ⟨h1, hu, ts', ht, rfl⟩ := lex_ok h
  obtain ⟨h2, h3⟩ := toks_said _ l 0 ts' (Nat.le_refl _) hu ht
  refine ⟨fun t hm hk => ?_, fun t hm hk => ?_, by rw [sLen_snoc]; simp only [List.length_nil]; omega, hf⟩
  · rcases List.mem_append.1 hm with hm | hm
    · exact h3 t hm hk
    · rw [List.mem_singleton] at hm
      subst hm
      cases hk
  · rcases List.mem_append.1 hm with hm | hm
    · have := toks_names _ l 0 ts' (Nat.le_refl _) ht t hm (.inl hk)
      refine ⟨this.1, ?_⟩
      cases hw : isWord t.says
      · rfl
      · have := this.2.2 hw
        omega
    · rw [List.mem_singleton] at hm
      subst hm
      cases hk
end Go.Proofs.YtmodiemmcdocdaaDoor.LX

namespace Go.Proofs.YtmodiemmcdocdaaDoor.PX
open Go LX MW

/-- What the first i tokens may cost. -/
def sm (ts : List Tok) (i : Nat) : Nat := 2 * sLen (ts.take i) + 40 * i
theorem sm_next {ts : List Tok} {i : Nat} (h : i < ts.length) : sm ts (i + 1) = sm ts i + 2 * (tk ts i).says.length + 40 := by
  unfold sm
  rw [List.take_succ_eq_append_getElem h, sLen_snoc, tk_get h]
  omega
theorem sLen_take (ts : List Tok) : ∀ i, sLen (ts.take i) ≤ sLen ts := by
  induction ts with
  | nil => intro i; simp
  | cons x r ih =>
    intro i
    cases i with
    | zero => simp [sLen]
    | succ i => rw [List.take_succ_cons, sLen, sLen]; have := ih i; omega

mutual
/-- What a filter's text may cost. -/
def tl : Ft → Nat
  | .mk _ n t kids => 30 + n.size + 2 * t.size + tls kids
def tls : List Ft → Nat
  | [] => 0
  | k :: r => tl k + tls r
end

theorem said_txt {ts : List Tok} (h : LTold ts) {i j : Nat} {t : Tok} (ht : token ts 4 i = .ok (t, j)) : isText t.says = true ∧ sm ts j = sm ts i + 2 * t.says.length + 40 := by
  obtain ⟨rfl, hl⟩ := token_lt ht (by decide)
  unfold token at ht
  split at ht
  · rename_i hk
    cases ht
    refine ⟨h.txt _ ?_ hk, sm_next hl⟩
    rw [tk_get hl]
    exact List.getElem_mem hl
  · cases ht
theorem said_nam {ts : List Tok} (h : LTold ts) {i j : Nat} {t : Tok} (ht : token ts 1 i = .ok (t, j)) : name t.says = true ∧ isWord t.says = false ∧ sm ts j = sm ts i + 2 * t.says.length + 40 := by
  obtain ⟨rfl, hl⟩ := token_lt ht (by decide)
  unfold token at ht
  split at ht
  · rename_i hk
    cases ht
    have := h.nam (tk ts i) (by rw [tk_get hl]; exact List.getElem_mem hl) hk
    exact ⟨this.1, this.2, sm_next hl⟩
  · cases ht
theorem said_num {ts : List Tok} {i j : Nat} {t : Tok} (ht : token ts 3 i = .ok (t, j)) : sm ts j = sm ts i + 2 * t.says.length + 40 := by
  obtain ⟨rfl, hl⟩ := token_lt ht (by decide)
  unfold token at ht
  split at ht
  · cases ht
    exact sm_next hl
  · cases ht
theorem said_want {ts : List Tok} {i j : Nat} {w : List UInt8} {u : Unit} (ht : want ts w i = .ok (u, j)) : sm ts i + 40 ≤ sm ts j := by
  obtain ⟨rfl, hl⟩ := want_lt ht
  have := sm_next hl
  omega
theorem said_take {ts : List Tok} {i : Nat} {w : List UInt8} (ht : isT (tk ts i) w = true) : sm ts i + 40 ≤ sm ts (i + 1) := by
  have := sm_next (tk_lt (isT_kind ht))
  omega

/-- What is read can be told. -/
def Tells (ts : List Tok) (one : Nat → PR Ft) : Prop := ∀ i x j, one i = .ok (x, j) → Can x ∧ TOk x ∧ tl x + sm ts i ≤ sm ts j

theorem bs_list (l : List UInt8) : (bs l).data.toList = l := by unfold bs; simp
theorem bs_size (l : List UInt8) : (bs l).size = l.length := by unfold bs; simp [ByteArray.size]
theorem tl_leaf (op : Int) (n t : ByteArray) : tl (.mk op n t []) = 30 + n.size + 2 * t.size := by rw [tl, tls]; rfl
theorem z_size : (⟨#[]⟩ : ByteArray).size = 0 := rfl

theorem leaf_tells {ts : List Tok} (h : LTold ts) : Tells ts (leaf ts) := by
  intro i x j hl
  unfold leaf at hl
  split at hl
  · rename_i h1
    cases hl
    have := said_take h1
    refine ⟨by rw [Can]; exact .inl ⟨.inl rfl, rfl, rfl, rfl⟩, tok_leaf (fun h => by omega) (fun h => by omega), ?_⟩
    rw [tl_leaf, z_size]; omega
  split at hl
  · rename_i h1
    cases hl
    have := said_take h1
    refine ⟨by rw [Can]; exact .inl ⟨.inr rfl, rfl, rfl, rfl⟩, tok_leaf (fun h => by omega) (fun h => by omega), ?_⟩
    rw [tl_leaf, z_size]; omega
  split at hl
  · rename_i h1
    have a1 := said_take h1
    rcases h2 : token ts 4 (i + 1) with e | ⟨t, q⟩ <;> rw [h2] at hl <;> dsimp only at hl
    · cases hl
    cases hl
    have a2 := said_txt h h2
    refine ⟨by rw [Can]; exact .inr (.inl ⟨.inl rfl, rfl, rfl⟩), tok_leaf (fun _ => by rw [bs_list]; exact a2.1) (fun h => by omega), ?_⟩
    rw [tl_leaf, z_size, bs_size]; omega
  split at hl
  · rename_i h1
    have a1 := said_take h1
    rcases h2 : token ts 4 (i + 1) with e | ⟨t, q⟩ <;> rw [h2] at hl <;> dsimp only at hl
    · cases hl
    cases hl
    have a2 := said_txt h h2
    refine ⟨by rw [Can]; exact .inr (.inl ⟨.inr rfl, rfl, rfl⟩), tok_leaf (fun _ => by rw [bs_list]; exact a2.1) (fun h => by omega), ?_⟩
    rw [tl_leaf, z_size, bs_size]; omega
  rcases h1 : want ts wField i with e | ⟨u, a⟩ <;> rw [h1] at hl <;> dsimp only at hl
  · cases hl
  rcases h2 : token ts 1 a with e | ⟨n, b⟩ <;> rw [h2] at hl <;> dsimp only at hl
  · cases hl
  rcases h3 : want ts wEq b with e | ⟨v, c⟩ <;> rw [h3] at hl <;> dsimp only at hl
  · cases hl
  rcases h4 : token ts 4 c with e | ⟨t, q⟩ <;> rw [h4] at hl <;> dsimp only at hl
  · cases hl
  cases hl
  have a1 := said_want h1
  have a2 := said_nam h h2
  have a3 := said_want h3
  have a4 := said_txt h h4
  refine ⟨by rw [Can]; exact .inr (.inr (.inl ⟨rfl, rfl⟩)), tok_leaf (fun _ => by rw [bs_list]; exact a4.1) (fun _ => by rw [bs_list]; exact ⟨a2.1, a2.2.1⟩), ?_⟩
  rw [tl_leaf, bs_size, bs_size]; omega

theorem rest_tells {ts : List Tok} {w : List UInt8} {one : Nat → PR Ft} (ho : Tells ts one) : ∀ (f i : Nat) (l : List Ft) (k : Nat), rest ts w one f i = .ok (l, k) → (∀ x ∈ l, Can x ∧ TOk x) ∧ tls l + 40 * l.length + sm ts i ≤ sm ts k
  | 0, i, l, k, h => by
    cases h
    exact ⟨fun x hx => by simp at hx, by simp [tls]⟩
  | f + 1, i, l, k, h => by
    rw [rest] at h
    split at h
    · rename_i h0
      have a0 := said_take h0
      rcases h1 : one (i + 1) with e | ⟨x, j⟩ <;> rw [h1] at h <;> dsimp only at h
      · cases h
      rcases h2 : rest ts w one f j with e | ⟨m, q⟩ <;> rw [h2] at h <;> dsimp only at h
      · cases h
      cases h
      have a1 := ho _ _ _ h1
      have a2 := rest_tells ho f j m _ h2
      refine ⟨fun y hy => ?_, ?_⟩
      · rcases List.mem_cons.1 hy with rfl | hy
        · exact ⟨a1.1, a1.2.1⟩
        · exact a2.1 y hy
      · rw [tls, List.length_cons]
        have := a1.2.2
        have := a2.2
        omega
    · cases h
      exact ⟨fun x hx => by simp at hx, by simp [tls]⟩

theorem row_tells {ts : List Tok} {w : List UInt8} {op : Int} (hop : op = 7 ∨ op = 8) {one : Nat → PR Ft} (ho : Tells ts one) : Tells ts (row ts w op one) := by
  intro i x j h
  unfold row at h
  rcases h1 : one i with e | ⟨y, a⟩ <;> rw [h1] at h <;> dsimp only at h
  · cases h
  rcases h2 : rest ts w one ts.length a with e | ⟨l, k⟩ <;> rw [h2] at h <;> dsimp only at h
  · cases h
  cases h
  have a1 := ho _ _ _ h1
  have a2 := rest_tells ho _ _ _ _ h2
  have b1 := a1.2.2
  have b2 := a2.2
  cases l with
  | nil =>
    refine ⟨a1.1, a1.2.1, ?_⟩
    show tl y + sm ts i ≤ _
    omega
  | cons z r =>
    have e : join op (y :: z :: r) = .mk op ⟨#[]⟩ ⟨#[]⟩ (y :: z :: r) := rfl
    have hall : ∀ q ∈ y :: z :: r, Can q ∧ TOk q := fun q hq => by
      rcases List.mem_cons.1 hq with rfl | hq
      · exact ⟨a1.1, a1.2.1⟩
      · exact a2.1 q hq
    rw [e]
    refine ⟨?_, ?_, ?_⟩
    · rw [Can]
      exact .inr (.inr (.inr (.inr ⟨hop, rfl, rfl, by simp, cans_of fun q hq => (hall q hq).1⟩)))
    · rw [TOk]
      exact ⟨fun h => by omega, fun h => by omega, toks_of fun q hq => (hall q hq).2⟩
    · rw [tl, tls, z_size]
      rw [List.length_cons] at b2
      omega

theorem atom_tells {ts : List Tok} (ht : LTold ts) : ∀ d, Tells ts (atom ts d)
  | 0 => by
    intro i x j h
    unfold atom at h
    split at h
    · cases h
    · split at h
      · cases h
      · exact leaf_tells ht i x j h
  | d + 1 => by
    intro i x j h
    unfold atom at h
    split at h
    · rename_i h0
      have a0 := said_take h0
      dsimp only at h
      rcases h1 : atom ts d (i + 1) with e | ⟨y, a⟩ <;> rw [h1] at h <;> dsimp only at h
      · cases h
      cases h
      have a1 := atom_tells ht d _ _ _ h1
      have b1 := a1.2.2
      refine ⟨?_, ?_, ?_⟩
      · rw [Can]
        exact .inr (.inr (.inr (.inl ⟨rfl, rfl, rfl, rfl, cans_of fun q hq => by rw [List.mem_singleton] at hq; subst hq; exact a1.1⟩)))
      · rw [TOk]
        exact ⟨fun h => by omega, fun h => by omega, toks_of fun q hq => by rw [List.mem_singleton] at hq; subst hq; exact a1.2.1⟩
      · rw [tl, tls, tls, z_size]
        omega
    · split at h
      · rename_i h0
        have a0 := said_take h0
        dsimp only at h
        rcases h1 : orF ts (atom ts d) (i + 1) with e | ⟨y, a⟩ <;> rw [h1] at h <;> dsimp only at h
        · cases h
        rcases h2 : want ts wShut a with e | ⟨u, b⟩ <;> rw [h2] at h <;> dsimp only at h
        · cases h
        cases h
        have a1 := row_tells (.inr rfl) (row_tells (.inl rfl) (atom_tells ht d)) _ _ _ h1
        have a2 := said_want h2
        have b1 := a1.2.2
        exact ⟨a1.1, a1.2.1, by omega⟩
      · exact leaf_tells ht i x j h

/-- Matchers that are read can be told. -/
theorem wheres_tells {ts : List Tok} (ht : LTold ts) : ∀ (f n i : Nat) (l : List Mt) (k : Nat), wheres ts f n i = .ok (l, k) → n ≤ 4 → n + l.length ≤ 4 ∧ sm ts i ≤ sm ts k ∧ ∀ m ∈ l, name m.name.data.toList = true ∧ isWord m.name.data.toList = false ∧ isText m.value.data.toList = true ∧ m.name.size ≤ 1024 ∧ m.value.size ≤ 1024
  | 0, n, i, l, k, h, h4 => by
    cases h
    exact ⟨by simpa using h4, Nat.le_refl _, fun m hm => by simp at hm⟩
  | f + 1, n, i, l, k, h, h4 => by
    rw [wheres] at h
    split at h
    · rename_i h0
      have a0 := said_take h0
      split at h
      · cases h
      rename_i hn
      rcases h1 : token ts 1 (i + 1) with e | ⟨a, j⟩ <;> rw [h1] at h <;> dsimp only at h
      · cases h
      split at h
      · cases h
      rename_i b q hb
      rcases h2 : token ts 4 q with e | ⟨t, r⟩ <;> rw [h2] at h <;> dsimp only at h
      · cases h
      rcases h3 : wheres ts f (n + 1) r with e | ⟨m, z⟩ <;> rw [h3] at h <;> dsimp only at h
      · cases h
      cases h
      have a1 := said_nam ht h1
      have a2 := said_txt ht h2
      have a3 := wheres_tells ht f (n + 1) r m _ h3 (by omega)
      have hq : sm ts j ≤ sm ts q := by
        split at hb
        · rename_i hn
          cases hb
          have := said_take hn
          omega
        · rcases h5 : want ts wEq j with e | ⟨u, c⟩ <;> rw [h5] at hb <;> dsimp only at hb
          · cases hb
          cases hb
          have := said_want h5
          omega
      have hs1 : a.says.length ≤ 1024 := by
        obtain ⟨rfl, hl⟩ := token_lt h1 (by decide)
        have e1 := sLen_take ts (i + 1 + 1)
        have e2 := a1.2.2
        unfold sm at e2
        have := ht.len
        have e3 := sLen_take ts (i + 1)
        have e4 : sLen (ts.take (i + 1 + 1)) = sLen (ts.take (i + 1)) + a.says.length := by
          omega
        omega
      have hs2 : t.says.length ≤ 1024 := by
        obtain ⟨rfl, hl⟩ := token_lt h2 (by decide)
        have e1 := sLen_take ts (q + 1)
        have e2 := a2.2
        unfold sm at e2
        have := ht.len
        omega
      refine ⟨by rw [List.length_cons]; omega, by have := a1.2.2; have := a2.2; have := a3.2.1; omega, fun y hy => ?_⟩
      rcases List.mem_cons.1 hy with rfl | hy
      · dsimp only
        rw [bs_list, bs_list, bs_size, bs_size]
        exact ⟨a1.1, a1.2.1, a2.1, hs1, hs2⟩
      · exact a3.2.2 y hy
    · cases h
      exact ⟨by simpa using h4, Nat.le_refl _, fun m hm => by simp at hm⟩

/-- A query that is read. -/
structure Read (q : Qy) : Prop where
  f0 : -1099511627776 ≤ q.src
  f1 : q.src ≤ 1099511627776
  t0 : -1099511627776 ≤ q.til
  t1 : q.til ≤ 1099511627776
  ft : q.src ≤ q.til
  ms : q.mat.length ≤ 4
  mat : ∀ m ∈ q.mat, name m.name.data.toList = true ∧ isWord m.name.data.toList = false ∧ isText m.value.data.toList = true ∧ m.name.size ≤ 1024 ∧ m.value.size ≤ 1024
  fil : Can q.fil
  tok : TOk q.fil
  cost : tl q.fil ≤ 44000
  l0 : 1 ≤ q.lim
  l1 : q.lim ≤ 50
  page : isText q.page.data.toList = true
  plen : q.page.size ≤ 1024

theorem number_in {ts : List Tok} {lo hi n : Int} {i j : Nat} (h : number ts lo hi i = .ok (n, j)) : lo ≤ n ∧ n ≤ hi := by
  unfold number at h
  rcases h1 : token ts 3 i with e | ⟨t, q⟩ <;> rw [h1] at h <;> dsimp only at h
  · cases h
  split at h
  · cases h
  · rename_i hn
    cases h
    omega

theorem query_told {ts : List Tok} (ht : LTold ts) {q : Qy} (hq : query ts = .ok q) : Read q := by
  unfold query at hq
  rcases h1 : want ts wFrom 0 with e | ⟨u1, i1⟩ <;> rw [h1] at hq <;> dsimp only at hq
  · cases hq
  rcases h2 : number ts (-1099511627776) 1099511627776 i1 with e | ⟨f, i2⟩ <;> rw [h2] at hq <;> dsimp only at hq
  · cases hq
  rcases h3 : want ts wTo i2 with e | ⟨u3, i3⟩ <;> rw [h3] at hq <;> dsimp only at hq
  · cases hq
  rcases h4 : number ts (-1099511627776) 1099511627776 i3 with e | ⟨t, i4⟩ <;> rw [h4] at hq <;> dsimp only at hq
  · cases hq
  split at hq
  · cases hq
  rename_i htf
  rcases h5 : wheres ts ts.length 0 i4 with e | ⟨ms, i5⟩ <;> rw [h5] at hq <;> dsimp only at hq
  · cases hq
  split at hq
  · cases hq
  rename_i x i6 h6
  obtain ⟨d, i7, h7⟩ : ∃ d i7, (if isT (tk ts i6) wDesc = true then (true, i6 + 1) else (false, i6)) = (d, i7) := ⟨_, _, rfl⟩
  rw [h7] at hq
  dsimp only at hq
  rcases h8 : want ts wLimit i7 with e | ⟨u8, i8⟩ <;> rw [h8] at hq <;> dsimp only at hq
  · cases hq
  rcases h9 : number ts 1 50 i8 with e | ⟨n, i9⟩ <;> rw [h9] at hq <;> dsimp only at hq
  · cases hq
  split at hq
  · cases hq
  rename_i p i10 h10
  split at hq
  · cases hq
    have a2 := number_in h2
    have a4 := number_in h4
    have a9 := number_in h9
    have a5 := wheres_tells ht _ _ _ _ _ h5 (by omega)
    have hall : ∀ i, i ≤ ts.length → sm ts i ≤ 2048 + 40 * 1025 := fun i hi => by
      unfold sm
      have := sLen_take ts i
      have := ht.len
      have := ht.few
      omega
    have a6 : Can x ∧ TOk x ∧ tl x ≤ 44000 := by
      split at h6
      · have b := row_tells (.inr rfl) (row_tells (.inl rfl) (atom_tells ht 8)) _ _ _ h6
        have c := row_few (w := wOr) (op := 8) (row_few (w := wAnd) (op := 7) (atom_few ts 8)) _ _ _ h6
        have := hall i6 c.2
        have := b.2.2
        exact ⟨b.1, b.2.1, by omega⟩
      · cases h6
        refine ⟨by rw [Can]; exact .inl ⟨.inl rfl, rfl, rfl, rfl⟩, tok_leaf (fun h => by omega) (fun h => by omega), by rw [tl_leaf, z_size]; omega⟩
    have a10 : isText p.data.toList = true ∧ p.size ≤ 1024 := by
      split at h10
      · rcases h11 : token ts 4 (i9 + 1) with e | ⟨t, q⟩ <;> rw [h11] at h10 <;> dsimp only at h10
        · cases h10
        cases h10
        have b := said_txt ht h11
        obtain ⟨rfl, hl⟩ := token_lt h11 (by decide)
        have e1 := sLen_take ts (i9 + 1 + 1)
        have e2 := b.2
        unfold sm at e2
        have := ht.len
        exact ⟨by rw [bs_list]; exact b.1, by rw [bs_size]; omega⟩
      · cases h10
        exact ⟨by decide +kernel, by decide⟩
    exact ⟨a2.1, a2.2, a4.1, a4.2, Int.not_lt.1 htf, by have h := a5.1; dsimp only; omega, a5.2.2, a6.1, a6.2.1, a6.2.2, a9.1, a9.2, a10.1, a10.2⟩
  · cases hq

theorem parse_told {l : List UInt8} {q : Qy} (h : parse l = .ok q) : Read q := by
  unfold parse at h
  rcases hl : LX.lex l with e | ts <;> rw [hl] at h <;> dsimp only at h
  · cases h
  · exact query_told (lex_told hl) h
end Go.Proofs.YtmodiemmcdocdaaDoor.PX
