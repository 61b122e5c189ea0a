/-
  TOKENS AS A QUERY: no program in it.
  THE PARSER'S STATE, as the document's own code turns it: no program in it.
  THE PARSER'S STATES ARE THE PARSER OF THE MATHEMATICS: no program in it.
  A QUERY'S TOKENS, by the parser's states and by the mathematics: no program in it.
  A QUERY'S TOKENS: the whole, by the parser's states and by the mathematics.
-/
import Derived.Test.YtmodiemmcdocdaaDoorLxA
import Derived.Test.YtmodiemmcdocdaaDoorQyA
namespace Go.Proofs.YtmodiemmcdocdaaDoor.PX
open Go LX

/-- What is read, and which token is next; or what is wrong, and where. -/
abbrev PR (α : Type) := Except (Nat × Nat) (α × Nat)

/-- Token i. -/
def tk (ts : List Tok) (i : Nat) : Tok := ts.getD i ⟨0, [], 0, 0⟩
/-- Is it a word, or a sign, of these letters? -/
def isT (t : Tok) (s : List UInt8) : Bool := (decide (t.kind = 2) || decide (t.kind = 5)) && decide (t.says = s)

def want (ts : List Tok) (s : List UInt8) (i : Nat) : PR Unit := if isT (tk ts i) s = true then .ok ((), i + 1) else .error (5, (tk ts i).place)
def token (ts : List Tok) (k : Nat) (i : Nat) : PR Tok := if (tk ts i).kind = k then .ok (tk ts i, i + 1) else .error (5, (tk ts i).place)
def number (ts : List Tok) (lo hi : Int) (i : Nat) : PR Int :=
  match token ts 3 i with
  | .error e => .error e
  | .ok (t, j) => if t.n < lo ∨ hi < t.n then .error (6, (tk ts i).place) else .ok (t.n, j)

def wNot : List UInt8 := [110, 111, 116]
def wOpen : List UInt8 := [40]
def wShut : List UInt8 := [41]
def wTrue : List UInt8 := [116, 114, 117, 101]
def wFalse : List UInt8 := [102, 97, 108, 115, 101]
def wWord : List UInt8 := [119, 111, 114, 100]
def wHas : List UInt8 := [104, 97, 115]
def wField : List UInt8 := [102, 105, 101, 108, 100]
def wEq : List UInt8 := [61]
def wNe : List UInt8 := [33, 61]
def wAnd : List UInt8 := [97, 110, 100]
def wOr : List UInt8 := [111, 114]
def wFrom : List UInt8 := [102, 114, 111, 109]
def wTo : List UInt8 := [116, 111]
def wWhere : List UInt8 := [119, 104, 101, 114, 101]
def wFind : List UInt8 := [102, 105, 110, 100]
def wDesc : List UInt8 := [100, 101, 115, 99]
def wLimit : List UInt8 := [108, 105, 109, 105, 116]
def wPage : List UInt8 := [112, 97, 103, 101]

def bs (l : List UInt8) : ByteArray := ⟨l.toArray⟩

/-- The rest of a row: as long as w is next. -/
def rest (ts : List Tok) (w : List UInt8) (one : Nat → PR Ft) : Nat → Nat → PR (List Ft)
  | 0, i => .ok ([], i)
  | f + 1, i => if isT (tk ts i) w = true then
      match one (i + 1) with
      | .error e => .error e
      | .ok (x, j) => match rest ts w one f j with
        | .error e => .error e
        | .ok (l, k) => .ok (x :: l, k)
    else .ok ([], i)

/-- A row: one is itself, more are of a kind. -/
def join (op : Int) : List Ft → Ft
  | [x] => x
  | l => .mk op ⟨#[]⟩ ⟨#[]⟩ l

def row (ts : List Tok) (w : List UInt8) (op : Int) (one : Nat → PR Ft) (i : Nat) : PR Ft :=
  match one i with
  | .error e => .error e
  | .ok (x, j) => match rest ts w one ts.length j with
    | .error e => .error e
    | .ok (l, k) => .ok (join op (x :: l), k)

def andF (ts : List Tok) (atom : Nat → PR Ft) : Nat → PR Ft := row ts wAnd 7 atom
def orF (ts : List Tok) (atom : Nat → PR Ft) : Nat → PR Ft := row ts wOr 8 (andF ts atom)

/-- One that nothing stands within. -/
def leaf (ts : List Tok) (i : Nat) : PR Ft :=
  if isT (tk ts i) wTrue = true then .ok (.mk 1 ⟨#[]⟩ ⟨#[]⟩ [], i + 1)
  else if isT (tk ts i) wFalse = true then .ok (.mk 2 ⟨#[]⟩ ⟨#[]⟩ [], i + 1)
  else if isT (tk ts i) wWord = true then match token ts 4 (i + 1) with
    | .error e => .error e
    | .ok (t, j) => .ok (.mk 3 ⟨#[]⟩ (bs t.says) [], j)
  else if isT (tk ts i) wHas = true then match token ts 4 (i + 1) with
    | .error e => .error e
    | .ok (t, j) => .ok (.mk 4 ⟨#[]⟩ (bs t.says) [], j)
  else match want ts wField i with
    | .error e => .error e
    | .ok (_, j) => match token ts 1 j with
      | .error e => .error e
      | .ok (n, k) => match want ts wEq k with
        | .error e => .error e
        | .ok (_, m) => match token ts 4 m with
          | .error e => .error e
          | .ok (t, q) => .ok (.mk 5 (bs n.says) (bs t.says) [], q)

/-- A filter of one, with so many nots and brackets that may stand within one another. -/
def atom (ts : List Tok) : Nat → Nat → PR Ft
  | d, i =>
    if isT (tk ts i) wNot = true then
      match d with
      | 0 => .error (6, (tk ts i).place)
      | d + 1 => match atom ts d (i + 1) with
        | .error e => .error e
        | .ok (x, j) => .ok (.mk 6 ⟨#[]⟩ ⟨#[]⟩ [x], j)
    else if isT (tk ts i) wOpen = true then
      match d with
      | 0 => .error (6, (tk ts i).place)
      | d + 1 => match orF ts (atom ts d) (i + 1) with
        | .error e => .error e
        | .ok (x, j) => match want ts wShut j with
          | .error e => .error e
          | .ok (_, k) => .ok (x, k)
    else leaf ts i

/-- The matchers behind the first n. -/
def wheres (ts : List Tok) : Nat → Nat → Nat → PR (List Mt)
  | 0, _, i => .ok ([], i)
  | f + 1, n, i => if isT (tk ts i) wWhere = true then
      if 4 ≤ n then .error (6, (tk ts i).place)
      else match token ts 1 (i + 1) with
      | .error e => .error e
      | .ok (a, j) =>
        match (if isT (tk ts j) wNe = true then (.ok (true, j + 1) : PR Bool) else match want ts wEq j with
          | .error e => .error e
          | .ok (_, k) => .ok (false, k)) with
        | .error e => .error e
        | .ok (b, k) => match token ts 4 k with
          | .error e => .error e
          | .ok (t, q) => match wheres ts f (n + 1) q with
            | .error e => .error e
            | .ok (l, r) => .ok (⟨bs a.says, b, bs t.says⟩ :: l, r)
    else .ok ([], i)

/-- A query's tokens. -/
def query (ts : List Tok) : Except (Nat × Nat) Qy :=
  match want ts wFrom 0 with
  | .error e => .error e
  | .ok (_, i1) => match number ts (-1099511627776) 1099511627776 i1 with
  | .error e => .error e
  | .ok (f, i2) => match want ts wTo i2 with
  | .error e => .error e
  | .ok (_, i3) => match number ts (-1099511627776) 1099511627776 i3 with
  | .error e => .error e
  | .ok (t, i4) => if t < f then .error (7, (tk ts i2).place) else
  match wheres ts ts.length 0 i4 with
  | .error e => .error e
  | .ok (ms, i5) =>
  match (if isT (tk ts i5) wFind = true then orF ts (atom ts 8) (i5 + 1) else .ok (.mk 1 ⟨#[]⟩ ⟨#[]⟩ [], i5)) with
  | .error e => .error e
  | .ok (x, i6) =>
  match (if isT (tk ts i6) wDesc = true then (true, i6 + 1) else (false, i6)) with
  | (d, i7) => match want ts wLimit i7 with
  | .error e => .error e
  | .ok (_, i8) => match number ts 1 50 i8 with
  | .error e => .error e
  | .ok (n, i9) =>
  match (if isT (tk ts i9) wPage = true then (match token ts 4 (i9 + 1) with
    | .error e => (.error e : PR ByteArray)
    | .ok (p, j) => .ok (bs p.says, j)) else .ok (⟨#[]⟩, i9)) with
  | .error e => .error e
  | .ok (p, i10) => if (tk ts i10).kind = 0 then .ok ⟨f, t, ms, x, d, n, p⟩ else .error (5, (tk ts i10).place)

/-- A text as a query. -/
def parse (l : List UInt8) : Except (Nat × Nat) Qy :=
  match LX.lex l with
  | .error e => .error e
  | .ok ts => query ts

/-- It ends with a token that nothing takes. -/
def Ended (ts : List Tok) : Prop := ∃ r t, ts = r ++ [t] ∧ t.kind = 0

theorem Ended.pos {ts : List Tok} (h : Ended ts) : 0 < ts.length := by
  obtain ⟨r, t, rfl, _⟩ := h
  simp

theorem Ended.next {ts : List Tok} (h : Ended ts) {i : Nat} (hi : i < ts.length) (hk : (tk ts i).kind ≠ 0) : i + 1 < ts.length := by
  obtain ⟨r, t, rfl, ht⟩ := h
  simp only [List.length_append, List.length_singleton] at hi ⊢
  by_cases he : i = r.length
  · subst he
    exact absurd (by simp [tk, List.getD, ht]) hk
  · omega

theorem isT_kind {t : Tok} {s : List UInt8} (h : isT t s = true) : t.kind ≠ 0 := by
  unfold isT at h
  simp only [Bool.and_eq_true, Bool.or_eq_true, decide_eq_true_eq] at h
  omega

theorem tk_get {ts : List Tok} {i : Nat} (hi : i < ts.length) : tk ts i = ts[i] := by
  unfold tk
  simp [List.getD, hi]

theorem lex_ended {l : List UInt8} {ts : List Tok} (h : LX.lex l = .ok ts) : Ended ts := by
  obtain ⟨_, _, r, _, rfl⟩ := LX.lex_ok h
  exact ⟨r, _, rfl, rfl⟩

end Go.Proofs.YtmodiemmcdocdaaDoor.PX

namespace Go.Proofs.YtmodiemmcdocdaaDoor.SX
open Go LX
open PX (tk isT bs PR)

/-- Which token is next, what is wrong, and where. -/
structure S where
  i : Nat
  err : Nat
  pl : Nat

variable (ts : List Tok)

def wrong (s : S) (e j : Nat) : S := if s.err = 0 then ⟨s.i, e, (tk ts j).place⟩ else s
def takes (s : S) (w : List UInt8) : Bool := decide (s.err = 0) && isT (tk ts s.i) w
def next (s : S) (y : Bool) : S := if y = true then ⟨s.i + 1, s.err, s.pl⟩ else s
def take (s : S) (w : List UInt8) : S := next s (takes ts s w)
def want (s : S) (w : List UInt8) : S := if takes ts s w = true then next s true else wrong ts s 5 s.i
def tokB (s : S) (k : Nat) : Bool := decide (s.err = 0) && decide ((tk ts s.i).kind = k)
def zeroT : Tok := ⟨0, [], 0, 0⟩
def tokV (s : S) (k : Nat) : Tok := if tokB ts s k = true then tk ts s.i else zeroT
def token (s : S) (k : Nat) : S := if tokB ts s k = true then next s true else wrong ts s 5 s.i
def numB (s : S) (t : Tok) (lo hi : Int) : Bool := decide (s.err = 0) && (decide (t.n < lo) || decide (hi < t.n))
def number (s : S) (lo hi : Int) : S := if numB (token ts s 3) (tokV ts s 3) lo hi = true then wrong ts (token ts s 3) 6 s.i else token ts s 3
def inB (s : S) (deep : Nat) : Bool := decide (s.err = 0) && decide (8 ≤ deep)
def inS (s : S) (deep : Nat) (j : Nat) : S := if inB s deep = true then wrong ts s 6 j else s

theorem wrong_i (s : S) (e j : Nat) : (wrong ts s e j).i = s.i := by unfold wrong; split <;> rfl
theorem wrong_err (s : S) (e j : Nat) : (wrong ts s e j).err = if s.err = 0 then e else s.err := by unfold wrong; split <;> rfl
theorem wrong_pl (s : S) (e j : Nat) : (wrong ts s e j).pl = if s.err = 0 then (tk ts j).place else s.pl := by unfold wrong; split <;> rfl

/-- The rest of a row. -/
def rest (w : List UInt8) (one : S → Ft × S) : Nat → S → List Ft × S
  | 0, s => ([], s)
  | f + 1, s => if takes ts s w = true then ((one (next s true)).1 :: (rest w one f (one (next s true)).2).1, (rest w one f (one (next s true)).2).2) else ([], s)
/-- A row. -/
def row (w : List UInt8) (op : Int) (one : S → Ft × S) (s : S) : Ft × S :=
  (PX.join op ((one s).1 :: (rest ts w one ts.length (one s).2).1), (rest ts w one ts.length (one s).2).2)

theorem rest_no {w : List UInt8} {one : S → Ft × S} {s : S} (h : takes ts s w = false) (f : Nat) : rest ts w one f s = ([], s) := by
  cases f
  · rfl
  · rw [rest, h]; rfl
theorem rest_yes {w : List UInt8} {one : S → Ft × S} {s : S} (h : takes ts s w = true) (f : Nat) : rest ts w one (f + 1) s = ((one (next s true)).1 :: (rest ts w one f (one (next s true)).2).1, (rest ts w one f (one (next s true)).2).2) := by
  rw [rest, if_pos h]

theorem takes_err {s : S} {w : List UInt8} (h : takes ts s w = true) : s.err = 0 := by
  unfold takes at h
  simp only [Bool.and_eq_true, decide_eq_true_eq] at h
  exact h.1
theorem takes_lt {s : S} {w : List UInt8} (he : PX.Ended ts) (hi : s.i < ts.length) (h : takes ts s w = true) : s.i + 1 < ts.length := by
  unfold takes at h
  simp only [Bool.and_eq_true, decide_eq_true_eq] at h
  exact he.next hi (PX.isT_kind h.2)

/-- It goes on: at least one token is over, or there is something wrong. -/
def Goes (one : S → Ft × S) : Prop := ∀ s, s.err = 0 → s.i ≤ (one s).2.i ∧ ((one s).2.err = 0 → s.i + 1 ≤ (one s).2.i)

theorem rest_bad {w : List UInt8} {one : S → Ft × S} {s : S} (h : s.err ≠ 0) (f : Nat) : rest ts w one f s = ([], s) := rest_no ts (by simp [takes, h]) f
theorem rest_goes {w : List UInt8} {one : S → Ft × S} (hg : Goes one) : ∀ (f : Nat) (s : S), s.i ≤ (rest ts w one f s).2.i
  | 0, _ => Nat.le_refl _
  | f + 1, s => by
    by_cases h : takes ts s w = true
    · rw [rest_yes ts h]
      have h0 := takes_err ts h
      have h1 : s.i + 1 ≤ (one (next s true)).2.i := (hg (next s true) h0).1
      have h2 := rest_goes (w := w) hg f (one (next s true)).2
      show s.i ≤ (rest ts w one f (one (next s true)).2).2.i
      omega
    · rw [rest_no ts (by simpa using h)]
      exact Nat.le_refl _
theorem row_goes {w : List UInt8} {op : Int} {one : S → Ft × S} (hg : Goes one) : Goes (row ts w op one) := by
  intro s h0
  have h1 := hg s h0
  have h2 := rest_goes ts (w := w) hg ts.length (one s).2
  unfold row
  refine ⟨Nat.le_trans h1.1 h2, fun h => ?_⟩
  by_cases he : (one s).2.err = 0
  · exact Nat.le_trans (h1.2 he) h2
  · rw [rest_bad ts he] at h
    exact absurd h he

/-- One that nothing stands within. -/
def field (s : S) : Ft × S :=
  (.mk 5 (bs (tokV ts (want ts s PX.wField) 1).says) (bs (tokV ts (want ts (token ts (want ts s PX.wField) 1) PX.wEq) 4).says) [],
    token ts (want ts (token ts (want ts s PX.wField) 1) PX.wEq) 4)
def leaf (s : S) : Ft × S :=
  if takes ts s PX.wTrue = true then (.mk 1 ⟨#[]⟩ ⟨#[]⟩ [], next s true)
  else if takes ts s PX.wFalse = true then (.mk 2 ⟨#[]⟩ ⟨#[]⟩ [], next s true)
  else if takes ts s PX.wWord = true then (.mk 3 ⟨#[]⟩ (bs (tokV ts (next s true) 4).says) [], token ts (next s true) 4)
  else if takes ts s PX.wHas = true then (.mk 4 ⟨#[]⟩ (bs (tokV ts (next s true) 4).says) [], token ts (next s true) 4)
  else field ts s
/-- A filter of one, with so many nots and brackets that may stand within one another. -/
def atom : Nat → S → Ft × S
  | d, s =>
    if takes ts s PX.wNot = true then
      match d with
      | 0 => (.mk 6 ⟨#[]⟩ ⟨#[]⟩ [], wrong ts (next s true) 6 s.i)
      | d + 1 => (.mk 6 ⟨#[]⟩ ⟨#[]⟩ [(atom d (next s true)).1], (atom d (next s true)).2)
    else if takes ts s PX.wOpen = true then
      match d with
      | 0 => (.mk 0 ⟨#[]⟩ ⟨#[]⟩ [], want ts (wrong ts (next s true) 6 s.i) PX.wShut)
      | d + 1 => ((row ts PX.wOr 8 (row ts PX.wAnd 7 (atom d)) (next s true)).1, want ts (row ts PX.wOr 8 (row ts PX.wAnd 7 (atom d)) (next s true)).2 PX.wShut)
    else leaf ts s

theorem next_i (s : S) : (next s true).i = s.i + 1 := rfl
theorem want_le (s : S) (w : List UInt8) : s.i ≤ (want ts s w).i := by
  unfold want
  split
  · rw [next_i]; omega
  · rw [wrong_i]; exact Nat.le_refl _
theorem token_le (s : S) (k : Nat) : s.i ≤ (token ts s k).i := by
  unfold token
  split
  · rw [next_i]; omega
  · rw [wrong_i]; exact Nat.le_refl _
theorem wrong_bad (s : S) {e : Nat} (he : e ≠ 0) (j : Nat) : (wrong ts s e j).err ≠ 0 := by
  rw [wrong_err]
  split
  · exact he
  · assumption
theorem want_err {s : S} {w : List UInt8} (h : (want ts s w).err = 0) : s.err = 0 ∧ s.i + 1 ≤ (want ts s w).i := by
  unfold want at h ⊢
  split at h
  · rename_i hy
    rw [if_pos hy]
    exact ⟨takes_err ts hy, Nat.le_refl _⟩
  · exact absurd h (wrong_bad ts _ (by decide) _)
theorem token_err {s : S} {k : Nat} (h : (token ts s k).err = 0) : s.err = 0 ∧ s.i + 1 ≤ (token ts s k).i := by
  unfold token at h ⊢
  split at h
  · rename_i hy
    rw [if_pos hy]
    unfold tokB at hy
    simp only [Bool.and_eq_true, decide_eq_true_eq] at hy
    exact ⟨hy.1, Nat.le_refl _⟩
  · exact absurd h (wrong_bad ts _ (by decide) _)

theorem leaf_goes : Goes (leaf ts) := by
  intro s h0
  have hn : ∀ k, s.i ≤ (token ts (next s true) k).i ∧ ((token ts (next s true) k).err = 0 → s.i + 1 ≤ (token ts (next s true) k).i) := fun k => by
    have := token_le ts (next s true) k
    rw [next_i] at this
    exact ⟨by omega, fun _ => by omega⟩
  unfold leaf
  split
  · exact ⟨Nat.le_succ _, fun _ => Nat.le_refl _⟩
  split
  · exact ⟨Nat.le_succ _, fun _ => Nat.le_refl _⟩
  split
  · exact hn 4
  split
  · exact hn 4
  · unfold field
    have h1 := want_le ts s PX.wField
    have h2 := token_le ts (want ts s PX.wField) 1
    have h3 := want_le ts (token ts (want ts s PX.wField) 1) PX.wEq
    have h4 := token_le ts (want ts (token ts (want ts s PX.wField) 1) PX.wEq) 4
    refine ⟨by dsimp only; omega, fun h => ?_⟩
    have := token_err ts h
    dsimp only
    omega

theorem atom_goes : ∀ d, Goes (atom ts d)
  | 0 => by
    intro s h0
    unfold atom
    split
    · exact ⟨by dsimp only; rw [wrong_i, next_i]; omega, fun h => absurd h (wrong_bad ts _ (by decide) _)⟩
    split
    · have h1 := want_le ts (wrong ts (next s true) 6 s.i) PX.wShut
      rw [wrong_i, next_i] at h1
      exact ⟨by dsimp only; omega, fun _ => h1⟩
    · exact leaf_goes ts s h0
  | d + 1 => by
    intro s h0
    have hs : (next s true).err = 0 := h0
    unfold atom
    split
    · have h1 := atom_goes d (next s true) hs
      rw [next_i] at h1
      exact ⟨by dsimp only; omega, fun _ => by dsimp only; omega⟩
    split
    · have h1 := row_goes ts (w := PX.wOr) (op := 8) (row_goes ts (w := PX.wAnd) (op := 7) (atom_goes d)) (next s true) hs
      have h2 := want_le ts (row ts PX.wOr 8 (row ts PX.wAnd 7 (atom ts d)) (next s true)).2 PX.wShut
      rw [next_i] at h1
      exact ⟨by dsimp only; omega, fun _ => by dsimp only; omega⟩
    · exact leaf_goes ts s h0

end Go.Proofs.YtmodiemmcdocdaaDoor.SX

namespace Go.Proofs.YtmodiemmcdocdaaDoor.SX
open Go LX
open PX (tk isT bs PR)

variable (ts : List Tok)

/-- A state goes as the mathematics says. -/
def Ends {α : Type} (pl : Nat) (r : PR α) (x : α → Prop) (s : S) : Prop :=
  match r with
  | .ok (a, j) => x a ∧ s = ⟨j, 0, pl⟩
  | .error (e, q) => e ≠ 0 ∧ s.err = e ∧ s.pl = q

theorem takes_zero (i pl : Nat) (w : List UInt8) : takes ts ⟨i, 0, pl⟩ w = isT (tk ts i) w := by simp [takes]
theorem wrong_keep {s : S} (h : s.err ≠ 0) (e j : Nat) : wrong ts s e j = s := by unfold wrong; rw [if_neg h]
theorem want_keep {s : S} (h : s.err ≠ 0) (w : List UInt8) : want ts s w = s := by
  unfold want
  rw [if_neg (by simp [takes, h])]
  exact wrong_keep ts h _ _
theorem token_keep {s : S} (h : s.err ≠ 0) (k : Nat) : token ts s k = s := by
  unfold token
  rw [if_neg (by simp [tokB, h])]
  exact wrong_keep ts h _ _

theorem want_ends (i pl : Nat) (w : List UInt8) : Ends pl (PX.want ts w i) (fun _ => True) (want ts ⟨i, 0, pl⟩ w) := by
  unfold PX.want want
  rw [takes_zero]
  by_cases h : isT (tk ts i) w = true
  · rw [if_pos h, if_pos h]; exact ⟨trivial, rfl⟩
  · rw [if_neg h, if_neg h]; exact ⟨by decide, rfl, rfl⟩
theorem token_ends (i pl k : Nat) : Ends pl (PX.token ts k i) (fun t => tokV ts ⟨i, 0, pl⟩ k = t) (token ts ⟨i, 0, pl⟩ k) := by
  unfold PX.token token tokV
  by_cases h : (tk ts i).kind = k
  · have hb : tokB ts ⟨i, 0, pl⟩ k = true := by simp [tokB, h]
    rw [if_pos h, if_pos hb, if_pos hb]; exact ⟨rfl, rfl⟩
  · have hb : ¬ tokB ts ⟨i, 0, pl⟩ k = true := by simp [tokB, h]
    rw [if_neg h, if_neg hb, if_neg hb]; exact ⟨by decide, rfl, rfl⟩
theorem number_ends (i pl : Nat) (lo hi : Int) : Ends pl (PX.number ts lo hi i) (fun n => (tokV ts ⟨i, 0, pl⟩ 3).n = n) (number ts ⟨i, 0, pl⟩ lo hi) := by
  have h := token_ends ts i pl 3
  unfold PX.number number
  generalize PX.token ts 3 i = r at h ⊢
  generalize token ts ⟨i, 0, pl⟩ 3 = s1 at h ⊢
  generalize tokV ts ⟨i, 0, pl⟩ 3 = t at h ⊢
  rcases r with ⟨e, q⟩ | ⟨t', j⟩
  · obtain ⟨h0, h1, h2⟩ := h
    have : numB s1 t lo hi = false := by simp [numB, h1, h0]
    rw [this]
    exact ⟨h0, h1, h2⟩
  · obtain ⟨rfl, rfl⟩ := h
    dsimp only
    by_cases hb : t.n < lo ∨ hi < t.n
    · have : numB ⟨j, 0, pl⟩ t lo hi = true := by simpa [numB] using hb
      rw [if_pos hb, if_pos this]
      exact ⟨by decide, rfl, rfl⟩
    · have : ¬ numB ⟨j, 0, pl⟩ t lo hi = true := by simpa [numB] using hb
      rw [if_neg hb, if_neg this]
      exact ⟨rfl, rfl⟩

/-- A piece of the parser is the mathematics' one. -/
def Rel (one : S → Ft × S) (p : Nat → PR Ft) : Prop := ∀ i pl, Ends pl (p i) (fun x => (one ⟨i, 0, pl⟩).1 = x) (one ⟨i, 0, pl⟩).2

theorem rest_ends {one : S → Ft × S} {p : Nat → PR Ft} (hr : Rel one p) (w : List UInt8) : ∀ (f i pl : Nat), Ends pl (PX.rest ts w p f i) (fun l => (rest ts w one f ⟨i, 0, pl⟩).1 = l) (rest ts w one f ⟨i, 0, pl⟩).2
  | 0, i, pl => ⟨rfl, rfl⟩
  | f + 1, i, pl => by
    unfold PX.rest rest
    rw [takes_zero]
    by_cases h : isT (tk ts i) w = true
    · rw [if_pos h, if_pos h]
      have h1 := hr (i + 1) pl
      have hn : next ⟨i, 0, pl⟩ true = ⟨i + 1, 0, pl⟩ := rfl
      rw [hn]
      generalize p (i + 1) = r at h1 ⊢
      generalize one ⟨i + 1, 0, pl⟩ = o at h1 ⊢
      obtain ⟨X, s⟩ := o
      rcases r with ⟨e, q⟩ | ⟨x, j⟩
      · obtain ⟨h0, h2, h3⟩ := h1
        dsimp only at h2 h3 ⊢
        rw [rest_bad ts (by rw [h2]; exact h0)]
        exact ⟨h0, h2, h3⟩
      · obtain ⟨h2, h3⟩ := h1
        dsimp only at h2 h3 ⊢
        subst h2
        subst h3
        have h4 := rest_ends hr w f j pl
        generalize PX.rest ts w p f j = r2 at h4 ⊢
        generalize rest ts w one f ⟨j, 0, pl⟩ = o2 at h4 ⊢
        rcases r2 with ⟨e, q⟩ | ⟨l, k⟩
        · exact h4
        · exact ⟨by show X :: o2.1 = X :: l; rw [h4.1], h4.2⟩
    · rw [if_neg h, if_neg h]
      exact ⟨rfl, rfl⟩

theorem row_rel {one : S → Ft × S} {p : Nat → PR Ft} (hr : Rel one p) (w : List UInt8) (op : Int) : Rel (row ts w op one) (PX.row ts w op p) := by
  intro i pl
  unfold PX.row row
  have h1 := hr i pl
  generalize p i = r at h1 ⊢
  generalize one ⟨i, 0, pl⟩ = o at h1 ⊢
  obtain ⟨X, s⟩ := o
  rcases r with ⟨e, q⟩ | ⟨x, j⟩
  · obtain ⟨h0, h2, h3⟩ := h1
    dsimp only at h2 h3 ⊢
    rw [rest_bad ts (by rw [h2]; exact h0)]
    exact ⟨h0, h2, h3⟩
  · obtain ⟨h2, h3⟩ := h1
    dsimp only at h2 h3 ⊢
    subst h2
    subst h3
    have h4 := rest_ends ts hr w ts.length j pl
    generalize PX.rest ts w p ts.length j = r2 at h4 ⊢
    generalize rest ts w one ts.length ⟨j, 0, pl⟩ = o2 at h4 ⊢
    rcases r2 with ⟨e, q⟩ | ⟨l, k⟩
    · exact h4
    · exact ⟨by show PX.join op (X :: o2.1) = PX.join op (X :: l); rw [h4.1], h4.2⟩

theorem field_rel (i pl : Nat) : Ends pl (match PX.want ts PX.wField i with
      | .error e => .error e
      | .ok (_, j) => match PX.token ts 1 j with
        | .error e => .error e
        | .ok (n, k) => match PX.want ts PX.wEq k with
          | .error e => .error e
          | .ok (_, m) => match PX.token ts 4 m with
            | .error e => .error e
            | .ok (t, q) => (.ok (.mk 5 (bs n.says) (bs t.says) [], q) : PR Ft)) (fun x => (field ts ⟨i, 0, pl⟩).1 = x) (field ts ⟨i, 0, pl⟩).2 := by
  unfold field
  have h1 := want_ends ts i pl PX.wField
  generalize PX.want ts PX.wField i = r1 at h1 ⊢
  generalize want ts ⟨i, 0, pl⟩ PX.wField = s1 at h1 ⊢
  rcases r1 with ⟨e, q⟩ | ⟨_, j⟩
  · obtain ⟨h0, h2, h3⟩ := h1
    have hb : s1.err ≠ 0 := by rw [h2]; exact h0
    dsimp only
    rw [token_keep ts hb, want_keep ts hb, token_keep ts hb]
    exact ⟨h0, h2, h3⟩
  obtain ⟨_, rfl⟩ := h1
  dsimp only
  have h1 := token_ends ts j pl 1
  generalize PX.token ts 1 j = r1 at h1 ⊢
  generalize token ts ⟨j, 0, pl⟩ 1 = s2 at h1 ⊢
  generalize tokV ts ⟨j, 0, pl⟩ 1 = n at h1 ⊢
  rcases r1 with ⟨e, q⟩ | ⟨n', k⟩
  · obtain ⟨h0, h2, h3⟩ := h1
    have hb : s2.err ≠ 0 := by rw [h2]; exact h0
    dsimp only
    rw [want_keep ts hb, token_keep ts hb]
    exact ⟨h0, h2, h3⟩
  obtain ⟨rfl, rfl⟩ := h1
  dsimp only
  have h1 := want_ends ts k pl PX.wEq
  generalize PX.want ts PX.wEq k = r1 at h1 ⊢
  generalize want ts ⟨k, 0, pl⟩ PX.wEq = s3 at h1 ⊢
  rcases r1 with ⟨e, q⟩ | ⟨_, m⟩
  · obtain ⟨h0, h2, h3⟩ := h1
    have hb : s3.err ≠ 0 := by rw [h2]; exact h0
    dsimp only
    rw [token_keep ts hb]
    exact ⟨h0, h2, h3⟩
  obtain ⟨_, rfl⟩ := h1
  dsimp only
  have h1 := token_ends ts m pl 4
  generalize PX.token ts 4 m = r1 at h1 ⊢
  generalize token ts ⟨m, 0, pl⟩ 4 = s4 at h1 ⊢
  generalize tokV ts ⟨m, 0, pl⟩ 4 = t at h1 ⊢
  rcases r1 with ⟨e, q⟩ | ⟨t', q⟩
  · exact h1
  · obtain ⟨rfl, rfl⟩ := h1
    exact ⟨rfl, rfl⟩

theorem text_rel (o : Int) (i pl : Nat) : Ends pl (match PX.token ts 4 i with
    | .error e => .error e
    | .ok (t, j) => (.ok (.mk o ⟨#[]⟩ (bs t.says) [], j) : PR Ft)) (fun x => Ft.mk o ⟨#[]⟩ (bs (tokV ts ⟨i, 0, pl⟩ 4).says) [] = x) (token ts ⟨i, 0, pl⟩ 4) := by
  have h1 := token_ends ts i pl 4
  generalize PX.token ts 4 i = r1 at h1 ⊢
  generalize token ts ⟨i, 0, pl⟩ 4 = s4 at h1 ⊢
  generalize tokV ts ⟨i, 0, pl⟩ 4 = t at h1 ⊢
  rcases r1 with ⟨e, q⟩ | ⟨t', q⟩
  · exact h1
  · obtain ⟨rfl, rfl⟩ := h1
    exact ⟨rfl, rfl⟩

theorem leaf_rel : Rel (leaf ts) (PX.leaf ts) := by
  intro i pl
  have hn : next ⟨i, 0, pl⟩ true = ⟨i + 1, 0, pl⟩ := rfl
  unfold PX.leaf leaf
  simp only [takes_zero, hn]
  split
  · exact ⟨rfl, rfl⟩
  split
  · exact ⟨rfl, rfl⟩
  split
  · exact text_rel ts 3 (i + 1) pl
  split
  · exact text_rel ts 4 (i + 1) pl
  · exact field_rel ts i pl

theorem atom_rel : ∀ d, Rel (atom ts d) (PX.atom ts d)
  | 0 => by
    intro i pl
    have hn : next ⟨i, 0, pl⟩ true = ⟨i + 1, 0, pl⟩ := rfl
    unfold PX.atom atom
    rw [takes_zero, takes_zero, hn]
    split
    · exact ⟨by decide, rfl, rfl⟩
    split
    · have hb : (wrong ts ⟨i + 1, 0, pl⟩ 6 i).err ≠ 0 := wrong_bad ts _ (by decide) _
      dsimp only
      rw [want_keep ts hb]
      exact ⟨by decide, rfl, rfl⟩
    · exact leaf_rel ts i pl
  | d + 1 => by
    intro i pl
    have hn : next ⟨i, 0, pl⟩ true = ⟨i + 1, 0, pl⟩ := rfl
    unfold PX.atom atom
    rw [takes_zero, takes_zero, hn]
    split
    · have h1 := atom_rel d (i + 1) pl
      dsimp only
      generalize PX.atom ts d (i + 1) = r at h1 ⊢
      generalize atom ts d ⟨i + 1, 0, pl⟩ = o at h1 ⊢
      rcases r with ⟨e, q⟩ | ⟨x, j⟩
      · exact h1
      · exact ⟨by show Ft.mk 6 _ _ [o.1] = Ft.mk 6 _ _ [x]; rw [h1.1], h1.2⟩
    split
    · have h1 : Ends pl (PX.orF ts (PX.atom ts d) (i + 1)) (fun x => (row ts PX.wOr 8 (row ts PX.wAnd 7 (atom ts d)) ⟨i + 1, 0, pl⟩).1 = x) (row ts PX.wOr 8 (row ts PX.wAnd 7 (atom ts d)) ⟨i + 1, 0, pl⟩).2 :=
        row_rel ts (row_rel ts (atom_rel d) PX.wAnd 7) PX.wOr 8 (i + 1) pl
      dsimp only
      generalize PX.orF ts (PX.atom ts d) (i + 1) = r at h1 ⊢
      generalize row ts PX.wOr 8 (row ts PX.wAnd 7 (atom ts d)) ⟨i + 1, 0, pl⟩ = o at h1 ⊢
      obtain ⟨X, s⟩ := o
      rcases r with ⟨e, q⟩ | ⟨x, j⟩
      · obtain ⟨h0, h2, h3⟩ := h1
        dsimp only at h2 h3 ⊢
        rw [want_keep ts (by rw [h2]; exact h0)]
        exact ⟨h0, h2, h3⟩
      · obtain ⟨h2, h3⟩ := h1
        dsimp only at h2 h3 ⊢
        subst h2
        subst h3
        have h4 := want_ends ts j pl PX.wShut
        generalize PX.want ts PX.wShut j = r2 at h4 ⊢
        generalize want ts ⟨j, 0, pl⟩ PX.wShut = s5 at h4 ⊢
        rcases r2 with ⟨e, q⟩ | ⟨_, k⟩
        · exact h4
        · exact ⟨rfl, h4.2⟩
    · exact leaf_rel ts i pl

end Go.Proofs.YtmodiemmcdocdaaDoor.SX

namespace Go.Proofs.YtmodiemmcdocdaaDoor.SX
open Go LX
open PX (tk isT bs PR)

variable (ts : List Tok)

def full (n : Nat) (s : S) : S := if n = 4 then wrong ts (next s true) 6 s.i else next s true
def eqS (s : S) : S := if takes ts s PX.wNe = true then next s true else want ts s PX.wEq
/-- One matcher: n are there. -/
def where1 (n : Nat) (s : S) : Mt × S :=
  (⟨bs (tokV ts (full ts n s) 1).says, takes ts (token ts (full ts n s) 1) PX.wNe, bs (tokV ts (eqS ts (token ts (full ts n s) 1)) 4).says⟩,
    token ts (eqS ts (token ts (full ts n s) 1)) 4)
/-- The matchers behind the first n. -/
def wheres : Nat → Nat → S → List Mt × S
  | 0, _, s => ([], s)
  | f + 1, n, s => if takes ts s PX.wWhere = true then ((where1 ts n s).1 :: (wheres f (n + 1) (where1 ts n s).2).1, (wheres f (n + 1) (where1 ts n s).2).2) else ([], s)

def lateB (s : S) (t f : Int) : Bool := decide (s.err = 0) && decide (t < f)
def late (s : S) (t f : Int) (j : Nat) : S := if lateB s t f = true then wrong ts s 7 j else s
def orS (s : S) : Ft × S := row ts PX.wOr 8 (row ts PX.wAnd 7 (atom ts 8)) s
def find (s : S) : Ft × S := if takes ts s PX.wFind = true then orS ts (next s true) else (.mk 1 ⟨#[]⟩ ⟨#[]⟩ [], s)
def page (s : S) : ByteArray × S := if takes ts s PX.wPage = true then (bs (tokV ts (next s true) 4).says, token ts (next s true) 4) else (⟨#[]⟩, s)
def stop (s : S) : S := if (decide (s.err = 0) && !decide ((tk ts s.i).kind = 0)) = true then wrong ts s 5 s.i else s

def sFrom : S := want ts ⟨0, 0, 0⟩ PX.wFrom
def vFrom : Int := (tokV ts (sFrom ts) 3).n
def sF : S := number ts (sFrom ts) (-1099511627776) 1099511627776
def sTo : S := want ts (sF ts) PX.wTo
def vTo : Int := (tokV ts (sTo ts) 3).n
def sT : S := number ts (sTo ts) (-1099511627776) 1099511627776
def sL : S := late ts (sT ts) (vTo ts) (vFrom ts) (sF ts).i
def sM : List Mt × S := wheres ts ts.length 0 (sL ts)
def sX : Ft × S := find ts (sM ts).2
def sD : S := take ts (sX ts).2 PX.wDesc
def sLim : S := want ts (sD ts) PX.wLimit
def sN : S := number ts (sLim ts) 1 50
def sP : ByteArray × S := page ts (sN ts)
/-- A query's tokens, by states. -/
def query : Qy × S :=
  (⟨vFrom ts, vTo ts, (sM ts).1, (sX ts).1, takes ts (sX ts).2 PX.wDesc, (tokV ts (sLim ts) 3).n, (sP ts).1⟩, stop ts (sP ts).2)

theorem number_keep {s : S} (h : s.err ≠ 0) (lo hi : Int) : number ts s lo hi = s := by
  unfold number
  rw [token_keep ts h, if_neg (by simp [numB, h])]
theorem takes_bad {s : S} (h : s.err ≠ 0) (w : List UInt8) : takes ts s w = false := by simp [takes, h]
theorem take_keep {s : S} (h : s.err ≠ 0) (w : List UInt8) : take ts s w = s := by unfold take; rw [takes_bad ts h]; rfl
theorem late_keep {s : S} (h : s.err ≠ 0) (t f : Int) (j : Nat) : late ts s t f j = s := by unfold late; rw [if_neg (by simp [lateB, h])]
theorem wheres_keep {s : S} (h : s.err ≠ 0) (f n : Nat) : wheres ts f n s = ([], s) := by
  cases f
  · rfl
  · rw [wheres, takes_bad ts h]; rfl
theorem find_keep {s : S} (h : s.err ≠ 0) : (find ts s).2 = s := by unfold find; rw [takes_bad ts h]; rfl
theorem page_keep {s : S} (h : s.err ≠ 0) : (page ts s).2 = s := by unfold page; rw [takes_bad ts h]; rfl
theorem stop_keep {s : S} (h : s.err ≠ 0) : stop ts s = s := by unfold stop; rw [if_neg (by simp [h])]
theorem eqS_keep {s : S} (h : s.err ≠ 0) : eqS ts s = s := by unfold eqS; rw [if_neg (by rw [takes_bad ts h]; decide), want_keep ts h]

/-- One matcher, as the mathematics has it. -/
def wh (j : Nat) : PR Mt :=
  match PX.token ts 1 j with
  | .error e => .error e
  | .ok (a, j) =>
    match (if isT (tk ts j) PX.wNe = true then (.ok (true, j + 1) : PR Bool) else match PX.want ts PX.wEq j with
      | .error e => .error e
      | .ok (_, k) => .ok (false, k)) with
    | .error e => .error e
    | .ok (b, k) => match PX.token ts 4 k with
      | .error e => .error e
      | .ok (t, q) => .ok (⟨bs a.says, b, bs t.says⟩, q)

theorem wheres_wh (f n i : Nat) : PX.wheres ts (f + 1) n i = if isT (tk ts i) PX.wWhere = true then
      if 4 ≤ n then .error (6, (tk ts i).place)
      else match wh ts (i + 1) with
      | .error e => .error e
      | .ok (m, q) => match PX.wheres ts f (n + 1) q with
        | .error e => .error e
        | .ok (l, r) => .ok (m :: l, r)
    else .ok ([], i) := by
  rw [PX.wheres]
  split
  · split
    · rfl
    · unfold wh
      rcases PX.token ts 1 (i + 1) with e | ⟨a, j⟩
      · rfl
      · dsimp only
        generalize (if isT (tk ts j) PX.wNe = true then (.ok (true, j + 1) : PR Bool) else match PX.want ts PX.wEq j with
          | .error e => .error e
          | .ok (_, k) => .ok (false, k)) = r
        rcases r with e | ⟨b, k⟩
        · rfl
        · dsimp only
          rcases PX.token ts 4 k with e | ⟨t, q⟩
          · rfl
          · rfl
  · rfl

theorem wh_ends (n i pl : Nat) (hn : n < 4) : Ends pl (wh ts (i + 1)) (fun m => (where1 ts n ⟨i, 0, pl⟩).1 = m) (where1 ts n ⟨i, 0, pl⟩).2 := by
  have hf : full ts n ⟨i, 0, pl⟩ = ⟨i + 1, 0, pl⟩ := by unfold full; rw [if_neg (by omega)]; rfl
  unfold wh where1
  rw [hf]
  have h1 := token_ends ts (i + 1) pl 1
  generalize PX.token ts 1 (i + 1) = r1 at h1 ⊢
  generalize token ts ⟨i + 1, 0, pl⟩ 1 = s2 at h1 ⊢
  generalize tokV ts ⟨i + 1, 0, pl⟩ 1 = a at h1 ⊢
  rcases r1 with ⟨e, q⟩ | ⟨a', j⟩
  · obtain ⟨h0, h2, h3⟩ := h1
    have hb : s2.err ≠ 0 := by rw [h2]; exact h0
    dsimp only
    rw [eqS_keep ts hb, token_keep ts hb]
    exact ⟨h0, h2, h3⟩
  obtain ⟨rfl, rfl⟩ := h1
  dsimp only
  unfold eqS
  rw [takes_zero]
  by_cases hne : isT (tk ts j) PX.wNe = true
  · have hnx : next ⟨j, 0, pl⟩ true = ⟨j + 1, 0, pl⟩ := rfl
    rw [if_pos hne, if_pos hne, hnx, hne]
    dsimp only
    have h1 := token_ends ts (j + 1) pl 4
    generalize PX.token ts 4 (j + 1) = r1 at h1 ⊢
    generalize token ts ⟨j + 1, 0, pl⟩ 4 = s4 at h1 ⊢
    generalize tokV ts ⟨j + 1, 0, pl⟩ 4 = t at h1 ⊢
    rcases r1 with ⟨e, q⟩ | ⟨t', q⟩
    · exact h1
    · obtain ⟨rfl, rfl⟩ := h1
      exact ⟨rfl, rfl⟩
  · rw [if_neg hne, if_neg hne]
    have hne' : isT (tk ts j) PX.wNe = false := by simpa using hne
    rw [hne']
    have h1 := want_ends ts j pl PX.wEq
    generalize PX.want ts PX.wEq j = r1 at h1 ⊢
    generalize want ts ⟨j, 0, pl⟩ PX.wEq = s3 at h1 ⊢
    rcases r1 with ⟨e, q⟩ | ⟨_, m⟩
    · obtain ⟨h0, h2, h3⟩ := h1
      have hb : s3.err ≠ 0 := by rw [h2]; exact h0
      dsimp only
      rw [token_keep ts hb]
      exact ⟨h0, h2, h3⟩
    obtain ⟨_, rfl⟩ := h1
    dsimp only
    have h1 := token_ends ts m pl 4
    generalize PX.token ts 4 m = r1 at h1 ⊢
    generalize token ts ⟨m, 0, pl⟩ 4 = s4 at h1 ⊢
    generalize tokV ts ⟨m, 0, pl⟩ 4 = t at h1 ⊢
    rcases r1 with ⟨e, q⟩ | ⟨t', q⟩
    · exact h1
    · obtain ⟨rfl, rfl⟩ := h1
      exact ⟨rfl, rfl⟩

theorem wheres_ends : ∀ (f n i pl : Nat), n ≤ 4 → Ends pl (PX.wheres ts f n i) (fun l => (wheres ts f n ⟨i, 0, pl⟩).1 = l) (wheres ts f n ⟨i, 0, pl⟩).2
  | 0, _, _, _, _ => ⟨rfl, rfl⟩
  | f + 1, n, i, pl, hn => by
    rw [wheres_wh, wheres, takes_zero]
    by_cases h : isT (tk ts i) PX.wWhere = true
    · rw [if_pos h, if_pos h]
      by_cases h4 : 4 ≤ n
      · have hn4 : n = 4 := by omega
        subst hn4
        have hb : (full ts 4 ⟨i, 0, pl⟩).err ≠ 0 := by unfold full; rw [if_pos rfl]; exact wrong_bad ts _ (by decide) _
        have hw : (where1 ts 4 ⟨i, 0, pl⟩).2 = full ts 4 ⟨i, 0, pl⟩ := by
          unfold where1
          dsimp only
          rw [token_keep ts hb, eqS_keep ts hb, token_keep ts hb]
        dsimp only
        rw [if_pos h4, hw, wheres_keep ts hb]
        unfold full
        rw [if_pos rfl]
        exact ⟨by decide, rfl, rfl⟩
      · rw [if_neg h4]
        have h1 := wh_ends ts n i pl (by omega)
        generalize wh ts (i + 1) = r1 at h1 ⊢
        generalize where1 ts n ⟨i, 0, pl⟩ = o at h1 ⊢
        obtain ⟨m, s⟩ := o
        rcases r1 with ⟨e, q⟩ | ⟨m', q⟩
        · obtain ⟨h0, h2, h3⟩ := h1
          dsimp only at h2 h3 ⊢
          rw [wheres_keep ts (by rw [h2]; exact h0)]
          exact ⟨h0, h2, h3⟩
        · obtain ⟨h2, h3⟩ := h1
          dsimp only at h2 h3 ⊢
          subst h2
          subst h3
          have h4 := wheres_ends f (n + 1) q pl (by omega)
          generalize PX.wheres ts f (n + 1) q = r2 at h4 ⊢
          generalize wheres ts f (n + 1) ⟨q, 0, pl⟩ = o2 at h4 ⊢
          rcases r2 with ⟨e, q⟩ | ⟨l, k⟩
          · exact h4
          · exact ⟨by show m :: o2.1 = m :: l; rw [h4.1], h4.2⟩
    · rw [if_neg h, if_neg h]
      exact ⟨rfl, rfl⟩

theorem or_rel : Rel (orS ts) (PX.orF ts (PX.atom ts 8)) := row_rel ts (row_rel ts (atom_rel ts 8) PX.wAnd 7) PX.wOr 8

theorem find_ends (i pl : Nat) : Ends pl (if isT (tk ts i) PX.wFind = true then PX.orF ts (PX.atom ts 8) (i + 1) else .ok (.mk 1 ⟨#[]⟩ ⟨#[]⟩ [], i)) (fun x => (find ts ⟨i, 0, pl⟩).1 = x) (find ts ⟨i, 0, pl⟩).2 := by
  unfold find
  rw [takes_zero]
  split
  · exact or_rel ts (i + 1) pl
  · exact ⟨rfl, rfl⟩

theorem page_ends (i pl : Nat) : Ends pl (if isT (tk ts i) PX.wPage = true then (match PX.token ts 4 (i + 1) with
    | .error e => (.error e : PR ByteArray)
    | .ok (p, j) => .ok (bs p.says, j)) else .ok (⟨#[]⟩, i)) (fun x => (page ts ⟨i, 0, pl⟩).1 = x) (page ts ⟨i, 0, pl⟩).2 := by
  unfold page
  rw [takes_zero]
  split
  · have hnx : next ⟨i, 0, pl⟩ true = ⟨i + 1, 0, pl⟩ := rfl
    rw [hnx]
    have h1 := token_ends ts (i + 1) pl 4
    generalize PX.token ts 4 (i + 1) = r1 at h1 ⊢
    generalize token ts ⟨i + 1, 0, pl⟩ 4 = s4 at h1 ⊢
    generalize tokV ts ⟨i + 1, 0, pl⟩ 4 = t at h1 ⊢
    rcases r1 with ⟨e, q⟩ | ⟨t', q⟩
    · exact h1
    · obtain ⟨rfl, rfl⟩ := h1
      exact ⟨rfl, rfl⟩
  · exact ⟨rfl, rfl⟩

end Go.Proofs.YtmodiemmcdocdaaDoor.SX

namespace Go.Proofs.YtmodiemmcdocdaaDoor.SX
open Go LX
open PX (tk isT bs PR)

variable (ts : List Tok)

theorem bad_P (h : (sP ts).2.err ≠ 0) : (query ts).2 = (sP ts).2 := by
  unfold query
  dsimp only
  rw [stop_keep ts h]
theorem bad_N (h : (sN ts).err ≠ 0) : (query ts).2 = sN ts := by
  have e : (sP ts).2 = sN ts := page_keep ts h
  rw [← e] at h ⊢
  exact bad_P ts h
theorem bad_Lim (h : (sLim ts).err ≠ 0) : (query ts).2 = sLim ts := by
  have e : sN ts = sLim ts := number_keep ts h _ _
  rw [← e] at h ⊢
  exact bad_N ts h
theorem bad_X (h : (sX ts).2.err ≠ 0) : (query ts).2 = (sX ts).2 := by
  have e : sD ts = (sX ts).2 := take_keep ts h _
  have e2 : sLim ts = (sX ts).2 := by
    unfold sLim
    rw [e]
    exact want_keep ts h _
  rw [← e2] at h ⊢
  exact bad_Lim ts h
theorem bad_M (h : (sM ts).2.err ≠ 0) : (query ts).2 = (sM ts).2 := by
  have e : (sX ts).2 = (sM ts).2 := find_keep ts h
  rw [← e] at h ⊢
  exact bad_X ts h
theorem bad_L (h : (sL ts).err ≠ 0) : (query ts).2 = sL ts := by
  have e : (sM ts).2 = sL ts := by unfold sM; rw [wheres_keep ts h]
  rw [← e] at h ⊢
  exact bad_M ts h
theorem bad_T (h : (sT ts).err ≠ 0) : (query ts).2 = sT ts := by
  have e : sL ts = sT ts := late_keep ts h _ _ _
  rw [← e] at h ⊢
  exact bad_L ts h
theorem bad_To (h : (sTo ts).err ≠ 0) : (query ts).2 = sTo ts := by
  have e : sT ts = sTo ts := number_keep ts h _ _
  rw [← e] at h ⊢
  exact bad_T ts h
theorem bad_F (h : (sF ts).err ≠ 0) : (query ts).2 = sF ts := by
  have e : sTo ts = sF ts := want_keep ts h _
  rw [← e] at h ⊢
  exact bad_To ts h
theorem bad_From (h : (sFrom ts).err ≠ 0) : (query ts).2 = sFrom ts := by
  have e : sF ts = sFrom ts := number_keep ts h _ _
  rw [← e] at h ⊢
  exact bad_F ts h

/-- The whole ends as the mathematics says. -/
def Says (r : Except (Nat × Nat) Qy) (x : Qy × S) : Prop :=
  match r with
  | .ok q => x.1 = q ∧ x.2.err = 0
  | .error (e, p) => e ≠ 0 ∧ x.2.err = e ∧ x.2.pl = p

theorem says_bad {x : Qy × S} {s : S} {e p : Nat} (hx : s.err ≠ 0 → x.2 = s) (h : e ≠ 0 ∧ s.err = e ∧ s.pl = p) : Says (.error (e, p)) x := by
  obtain ⟨h0, h1, h2⟩ := h
  have := hx (by rw [h1]; exact h0)
  exact ⟨h0, by rw [this]; exact h1, by rw [this]; exact h2⟩

theorem query_says : Says (PX.query ts) (query ts) := by
  unfold PX.query
  have h1 : Ends 0 (PX.want ts PX.wFrom 0) (fun _ => True) (sFrom ts) := want_ends ts 0 0 PX.wFrom
  generalize PX.want ts PX.wFrom 0 = r at h1 ⊢
  rcases r with ⟨e, q⟩ | ⟨_, i1⟩
  · exact says_bad (bad_From ts) h1
  obtain ⟨_, e1⟩ := h1
  dsimp only
  have h1 := number_ends ts i1 0 (-1099511627776) 1099511627776
  rw [← e1] at h1
  have h1 : Ends 0 (PX.number ts (-1099511627776) 1099511627776 i1) (fun n => vFrom ts = n) (sF ts) := h1
  generalize PX.number ts (-1099511627776) 1099511627776 i1 = r at h1 ⊢
  rcases r with ⟨e, q⟩ | ⟨f, i2⟩
  · exact says_bad (bad_F ts) h1
  obtain ⟨ef, e2⟩ := h1
  dsimp only at ef ⊢
  have h1 := want_ends ts i2 0 PX.wTo
  rw [← e2] at h1
  have h1 : Ends 0 (PX.want ts PX.wTo i2) (fun _ => True) (sTo ts) := h1
  generalize PX.want ts PX.wTo i2 = r at h1 ⊢
  rcases r with ⟨e, q⟩ | ⟨_, i3⟩
  · exact says_bad (bad_To ts) h1
  obtain ⟨_, e3⟩ := h1
  dsimp only
  have h1 := number_ends ts i3 0 (-1099511627776) 1099511627776
  rw [← e3] at h1
  have h1 : Ends 0 (PX.number ts (-1099511627776) 1099511627776 i3) (fun n => vTo ts = n) (sT ts) := h1
  generalize PX.number ts (-1099511627776) 1099511627776 i3 = r at h1 ⊢
  rcases r with ⟨e, q⟩ | ⟨t, i4⟩
  · exact says_bad (bad_T ts) h1
  obtain ⟨et, e4⟩ := h1
  dsimp only at et ⊢
  have hl : sL ts = late ts ⟨i4, 0, 0⟩ t f i2 := by
    unfold sL
    rw [e4, et, ef, e2]
  by_cases htf : t < f
  · rw [if_pos htf]
    refine says_bad (bad_L ts) ?_
    have hb : lateB ⟨i4, 0, 0⟩ t f = true := by simp [lateB, htf]
    rw [hl]
    unfold late
    rw [if_pos hb]
    exact ⟨by decide, rfl, rfl⟩
  rw [if_neg htf]
  have e5 : sL ts = ⟨i4, 0, 0⟩ := by
    have hb : ¬ lateB ⟨i4, 0, 0⟩ t f = true := by simp [lateB, htf]
    rw [hl]
    unfold late
    rw [if_neg hb]
  have h1 := wheres_ends ts ts.length 0 i4 0 (by omega)
  rw [← e5] at h1
  have h1 : Ends 0 (PX.wheres ts ts.length 0 i4) (fun l => (sM ts).1 = l) (sM ts).2 := h1
  generalize PX.wheres ts ts.length 0 i4 = r at h1 ⊢
  rcases r with ⟨e, q⟩ | ⟨ms, i5⟩
  · exact says_bad (bad_M ts) h1
  obtain ⟨em, e6⟩ := h1
  dsimp only at em ⊢
  have h1 := find_ends ts i5 0
  rw [← e6] at h1
  have h1 : Ends 0 _ (fun x => (sX ts).1 = x) (sX ts).2 := h1
  generalize (if isT (tk ts i5) PX.wFind = true then PX.orF ts (PX.atom ts 8) (i5 + 1) else .ok (.mk 1 ⟨#[]⟩ ⟨#[]⟩ [], i5)) = r at h1 ⊢
  rcases r with ⟨e, q⟩ | ⟨x, i6⟩
  · exact says_bad (bad_X ts) h1
  obtain ⟨ex, e7⟩ := h1
  dsimp only at ex ⊢
  have hd : takes ts (sX ts).2 PX.wDesc = isT (tk ts i6) PX.wDesc := by rw [e7]; exact takes_zero ts i6 0 _
  obtain ⟨d, i7, hpair, hdv, e8⟩ : ∃ d i7, (if isT (tk ts i6) PX.wDesc = true then (true, i6 + 1) else (false, i6)) = (d, i7) ∧ takes ts (sX ts).2 PX.wDesc = d ∧ sD ts = ⟨i7, 0, 0⟩ := by
    by_cases h : isT (tk ts i6) PX.wDesc = true
    · refine ⟨true, i6 + 1, if_pos h, hd.trans h, ?_⟩
      unfold sD take
      rw [hd, h, e7]
      rfl
    · refine ⟨false, i6, if_neg h, hd.trans (by simpa using h), ?_⟩
      have h' : isT (tk ts i6) PX.wDesc = false := by simpa using h
      unfold sD take
      rw [hd, h', e7]
      rfl
  rw [hpair]
  dsimp only
  have h1 := want_ends ts i7 0 PX.wLimit
  rw [← e8] at h1
  have h1 : Ends 0 (PX.want ts PX.wLimit i7) (fun _ => True) (sLim ts) := h1
  generalize PX.want ts PX.wLimit i7 = r at h1 ⊢
  rcases r with ⟨e, q⟩ | ⟨_, i8⟩
  · exact says_bad (bad_Lim ts) h1
  obtain ⟨_, e9⟩ := h1
  dsimp only
  have h1 := number_ends ts i8 0 1 50
  rw [← e9] at h1
  have h1 : Ends 0 (PX.number ts 1 50 i8) (fun n => (tokV ts (sLim ts) 3).n = n) (sN ts) := h1
  generalize PX.number ts 1 50 i8 = r at h1 ⊢
  rcases r with ⟨e, q⟩ | ⟨n, i9⟩
  · exact says_bad (bad_N ts) h1
  obtain ⟨en, e10⟩ := h1
  dsimp only at en ⊢
  have h1 := page_ends ts i9 0
  rw [← e10] at h1
  have h1 : Ends 0 _ (fun p => (sP ts).1 = p) (sP ts).2 := h1
  generalize (if isT (tk ts i9) PX.wPage = true then (match PX.token ts 4 (i9 + 1) with
    | .error e => (.error e : PR ByteArray)
    | .ok (p, j) => .ok (bs p.says, j)) else .ok (⟨#[]⟩, i9)) = r at h1 ⊢
  rcases r with ⟨e, q⟩ | ⟨p, i10⟩
  · exact says_bad (bad_P ts) h1
  obtain ⟨ep, e11⟩ := h1
  dsimp only at ep ⊢
  have hs : (query ts).2 = stop ts ⟨i10, 0, 0⟩ := by
    unfold query
    dsimp only
    rw [e11]
  by_cases h : (tk ts i10).kind = 0
  · rw [if_pos h]
    refine ⟨?_, ?_⟩
    · unfold query
      dsimp only
      rw [ef, et, em, ex, hdv, en, ep]
    · rw [hs]
      unfold stop
      rw [if_neg (by simp [h])]
  · rw [if_neg h]
    have hst : (query ts).2 = ⟨i10, 5, (tk ts i10).place⟩ := by
      rw [hs]
      unfold stop
      rw [if_pos (by simp [h])]
      rfl
    exact ⟨by decide, by rw [hst], by rw [hst]⟩

end Go.Proofs.YtmodiemmcdocdaaDoor.SX
